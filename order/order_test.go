package order_test

import (
	"math"
	"sync"
	"testing"

	"tarry/api"
	"tarry/order"
)

// The chapter's example.
func TestExample(t *testing.T) {
	for _, c := range []struct {
		split bool
		want  int
	}{{true, 3}, {false, 0}} {
		o, e := order.New(api.Order{Id: 1, Sku: "cup", Seq: 1, Need: 5, Price: 1, Cutoff: 9, Split: c.split}, 9)
		if e != api.OK {
			t.Fatal(e)
		}
		if got := order.Wants(o, 3, 0); got != c.want {
			t.Errorf("Split %v: Wants = %d; want %d", c.split, got, c.want)
		}
	}
}

// The errors that order tells, by their numbers.
func TestErrorsNumbers(t *testing.T) {
	told := func(_ api.Order, e api.Errno) int { return int(e) }
	o := waiting(0, false)
	if n := told(order.New(o, 20)); n != 0 {
		t.Error(n)
	}
	if n := told(order.New(o, -1)); n != 1 {
		t.Error(n)
	}
	o.Need, o.Price = mostUnits, mostUnits
	if n := told(order.New(o, 20)); n != 2 {
		t.Error(n)
	}
	if n := told(order.Send(closed(waiting(0, false), 5), load(1))); n != 10 {
		t.Error(n)
	}
}

// P13.1 to P13.3: all calls in turn, written out: in parts, and cut off while units are on their way.
func TestCallsInParts(t *testing.T) {
	o, e := order.New(api.Order{Id: 9, Sku: "cup", Class: 1, Seq: 4, Need: 5, Price: 7, Cutoff: 60, Split: true}, 20)
	if o != waiting(0, true) || e != api.OK || !order.Open(o) || order.Lack(o) != 5 {
		t.Fatalf("New = %+v, %d", o, e)
	}
	if n := order.Wants(o, 3, 19); n != 3 {
		t.Fatal(n)
	}
	o, e = order.Send(o, load(3))
	if o != with(waiting(0, true), api.PSend, load(3)) || e != api.OK || !order.Open(o) || order.Lack(o) != 5 || order.Wants(o, 9, 0) != 0 {
		t.Fatalf("Send = %+v, %d", o, e)
	}
	o, n, e := order.Came(o)
	if o != waiting(3, true) || n != 21 || e != api.OK || !order.Open(o) || order.Lack(o) != 2 || order.Wants(o, 9, 0) != 2 {
		t.Fatalf("Came = %+v, %d, %d", o, n, e)
	}
	mugs := api.Load{Sku: "mug", Units: 10, Counts: 1, Key: 4}
	o, e = order.Send(o, mugs)
	if o != with(waiting(3, true), api.PSend, mugs) || e != api.OK {
		t.Fatalf("Send = %+v, %d", o, e)
	}
	o, e = order.End(o)
	if o != ending(with(waiting(3, true), api.PSend, mugs)) || e != api.OK || !order.Open(o) {
		t.Fatalf("End = %+v, %d", o, e)
	}
	if again, e := order.End(o); again != (api.Order{}) || e != api.ErrState {
		t.Fatalf("End again = %+v, %d", again, e)
	}
	o, n, e = order.Came(o)
	if o != closed(waiting(4, true), api.PPart) || n != 7 || e != api.OK || order.Open(o) || order.Lack(o) != 1 {
		t.Fatalf("Came = %+v, %d, %d", o, n, e)
	}
}

// P13.3: all calls in turn, written out: whole, and cut off.
func TestCallsWhole(t *testing.T) {
	o := waiting(0, false)
	if n := order.Wants(o, 4, 0); n != 0 {
		t.Fatal(n)
	}
	o, e := order.Send(o, load(5))
	if o != with(waiting(0, false), api.PSend, load(5)) || e != api.OK {
		t.Fatalf("Send = %+v, %d", o, e)
	}
	o, n, e := order.Came(ending(o))
	if o != closed(waiting(5, false), api.PDone) || n != 35 || e != api.OK || order.Open(o) || order.Lack(o) != 0 {
		t.Fatalf("Came = %+v, %d, %d", o, n, e)
	}
	o, e = order.End(waiting(0, false))
	if o != closed(waiting(0, false), api.PCancel) || e != api.OK || order.Open(o) || order.Lack(o) != 5 {
		t.Fatalf("End = %+v, %d", o, e)
	}
	o, e = order.End(waiting(2, false))
	if o != closed(waiting(2, false), api.PPart) || e != api.OK || order.Open(o) {
		t.Fatalf("End = %+v, %d", o, e)
	}
}

// P13.1: New: of what it is handed just what the promise names, whatever else stands there.
func TestNewTakesNothingElse(t *testing.T) {
	o := closed(waiting(3, true), api.PPart)
	o.Load, o.Ask, o.Ends = load(2), api.Ask{State: api.AYes, Until: 9}, true
	if got, e := order.New(o, 20); got != waiting(0, true) || e != api.OK {
		t.Errorf("New = %+v, %d", got, e)
	}
	wild := o
	wild.Done, wild.Phase, wild.Load.Key, wild.Pay.Amount, wild.Ask.Until = -1, 77, -5, math.MinInt, math.MaxInt
	if got, e := order.New(wild, 20); got != waiting(0, true) || e != api.OK {
		t.Errorf("New = %+v, %d", got, e)
	}
}

// P13.1: New: which error comes first, at all bounds.
func TestNew(t *testing.T) {
	for _, c := range []struct {
		change func(o *api.Order)
		until  int
		e      api.Errno
	}{
		{func(o *api.Order) {}, 0, api.OK},
		{func(o *api.Order) {}, mostTick, api.OK},
		{func(o *api.Order) {}, -1, api.ErrArg},
		{func(o *api.Order) {}, mostTick + 1, api.ErrArg},
		{func(o *api.Order) { o.Id = 1 }, 5, api.OK},
		{func(o *api.Order) { o.Id = mostTick }, 5, api.OK},
		{func(o *api.Order) { o.Id = 0 }, 5, api.ErrArg},
		{func(o *api.Order) { o.Id = mostTick + 1 }, 5, api.ErrArg},
		{func(o *api.Order) { o.Seq = 1 }, 5, api.OK},
		{func(o *api.Order) { o.Seq = mostTick }, 5, api.OK},
		{func(o *api.Order) { o.Seq = 0 }, 5, api.ErrArg},
		{func(o *api.Order) { o.Seq = mostTick + 1 }, 5, api.ErrArg},
		{func(o *api.Order) { o.Class = 0 }, 5, api.OK},
		{func(o *api.Order) { o.Class = 3 }, 5, api.OK},
		{func(o *api.Order) { o.Class = -1 }, 5, api.ErrArg},
		{func(o *api.Order) { o.Class = 4 }, 5, api.ErrArg},
		{func(o *api.Order) { o.Cutoff = 0 }, 5, api.OK},
		{func(o *api.Order) { o.Cutoff = mostTick }, 5, api.OK},
		{func(o *api.Order) { o.Cutoff = -1 }, 5, api.ErrArg},
		{func(o *api.Order) { o.Cutoff = mostTick + 1 }, 5, api.ErrArg},
		{func(o *api.Order) { o.Sku = "" }, 5, api.ErrArg},
		{func(o *api.Order) { o.Sku = "a cup" }, 5, api.ErrArg},
		{func(o *api.Order) { o.Sku = "abcdefghij012789" }, 5, api.OK},
		{func(o *api.Order) { o.Sku = "abcdefghij0127890" }, 5, api.ErrArg},
		{func(o *api.Order) { o.Need = 0 }, 5, api.ErrArg},
		{func(o *api.Order) { o.Price = 0 }, 5, api.ErrArg},
		{func(o *api.Order) { o.Need = mostUnits + 1 }, 5, api.ErrArg},
		{func(o *api.Order) { o.Price = mostUnits + 1 }, 5, api.ErrArg},
		{func(o *api.Order) { o.Need, o.Price = mostUnits, 1<<20 }, 5, api.OK},
		{func(o *api.Order) { o.Need, o.Price = 1<<20, mostUnits }, 5, api.OK},
		{func(o *api.Order) { o.Need, o.Price = mostUnits, 1<<20+1 }, 5, api.ErrOver},
		{func(o *api.Order) { o.Need, o.Price = mostUnits, mostUnits }, 5, api.ErrOver},

		// The money's error comes ahead of all others.
		{func(o *api.Order) { o.Need, o.Price, o.Id = mostUnits, mostUnits, 0 }, 5, api.ErrOver},
		{func(o *api.Order) { o.Need, o.Price, o.Sku = mostUnits, mostUnits, "" }, 5, api.ErrOver},
		{func(o *api.Order) { o.Need, o.Price, o.Cutoff = mostUnits, mostUnits, -1 }, 5, api.ErrOver},
		{func(o *api.Order) { o.Need, o.Price = mostUnits, mostUnits }, -1, api.ErrArg},
	} {
		o := waiting(0, true)
		c.change(&o)
		got, e := made(t, o, c.until)
		if e != c.e || e != api.OK && got != (api.Order{}) {
			t.Errorf("New(%+v, %d) = %+v, %d; want %d", o, c.until, got, e, c.e)
		}
	}
}

// P13.1: Right and Open: orders that may be, of each phase.
func TestOrdersThatMayBe(t *testing.T) {
	phases := map[int]int{}
	for _, o := range ordersThatMayBe() {
		if !isOrder(o) || !order.Right(o) {
			t.Errorf("it may be: %+v", o)
		}
		if order.Open(o) != (o.Phase == api.PWait || o.Phase == api.PSend) {
			t.Errorf("Open(%+v) = %v", o, order.Open(o))
		}
		phases[o.Phase]++
	}
	if len(phases) != 5 {
		t.Errorf("of phases: %v", phases)
	}
}

// P13.1: Right: written out, what each phase must have, and must not.
func TestRightOfEachPhase(t *testing.T) {
	w, whole := waiting(2, true), waiting(5, true)
	mugs := api.Load{Sku: "mug", Units: mostUnits, Counts: 3, Key: mostTick}
	for _, c := range []struct {
		o    api.Order
		want bool
	}{
		{w, true},
		{ending(w), false},
		{whole, false},
		{closed(w, api.PWait), false},
		{with(w, api.PWait, load(1)), false},
		{with(w, api.PWait, api.Load{Key: 1}), false},
		{with(w, api.PWait, api.Load{Sku: "cup"}), false},

		{with(w, api.PSend, load(1)), true},
		{with(w, api.PSend, load(3)), true},
		{ending(with(w, api.PSend, load(3))), true},
		{with(w, api.PSend, load(4)), false},
		{with(w, api.PSend, load(0)), false},
		{with(w, api.PSend, api.Load{}), false},
		{with(w, api.PSend, mugs), true},
		{with(w, api.PSend, api.Load{Sku: "mug", Units: mostUnits + 1, Counts: 3, Key: 1}), false},
		{with(w, api.PSend, api.Load{Sku: "mug", Units: 1, Counts: 4, Key: 1}), false},
		{with(w, api.PSend, api.Load{Sku: "mug", Units: 1, Counts: 0, Key: 1}), false},
		{with(w, api.PSend, api.Load{Sku: "mug", Units: 0, Counts: 1, Key: 1}), false},
		{with(w, api.PSend, api.Load{Sku: "mug", Units: 1, Counts: 1, Key: 0}), false},
		{with(w, api.PSend, api.Load{Sku: "mug", Units: 1, Counts: 1, Key: mostTick + 1}), false},
		{with(w, api.PSend, api.Load{Sku: "Mug", Units: 1, Counts: 1, Key: 1}), false},
		{with(w, api.PSend, api.Load{Sku: "", Units: 1, Counts: 1, Key: 1}), false},
		{with(w, api.PSend, api.Load{Sku: "cup", Units: 2, Counts: 1, Key: 1}), false},
		{with(w, api.PSend, api.Load{Sku: "cup", Units: 1, Counts: 2, Key: 1}), false},
		{closed(with(w, api.PSend, load(3)), api.PSend), false},
		{with(whole, api.PSend, load(1)), false},

		{closed(whole, api.PDone), true},
		{closed(w, api.PDone), false},
		{ending(closed(whole, api.PDone)), false},
		{with(closed(whole, api.PDone), api.PDone, load(1)), false},
		{with(whole, api.PDone, api.Load{}), false},

		{closed(w, api.PPart), true},
		{closed(waiting(0, true), api.PPart), false},
		{closed(waiting(1, true), api.PPart), true},
		{closed(waiting(4, true), api.PPart), true},
		{closed(whole, api.PPart), false},
		{ending(closed(w, api.PPart)), false},
		{with(closed(w, api.PPart), api.PPart, load(1)), false},
		{with(w, api.PPart, api.Load{}), false},

		{closed(waiting(0, true), api.PCancel), true},
		{closed(waiting(1, true), api.PCancel), false},
		{ending(closed(waiting(0, true), api.PCancel)), false},
		{with(closed(waiting(0, true), api.PCancel), api.PCancel, load(1)), false},
		{with(waiting(0, true), api.PCancel, api.Load{}), false},

		{with(w, 0, api.Load{}), false},
		{with(w, 6, api.Load{}), false},
		{with(w, -1, api.Load{}), false},
		{closed(whole, 0), false},
		{closed(whole, 6), false},
		{with(w, math.MaxInt, api.Load{}), false},
		{with(w, math.MinInt, api.Load{}), false},
	} {
		if isOrder(c.o) != c.want || order.Right(c.o) != c.want {
			t.Errorf("Right(%+v) = %v", c.o, order.Right(c.o))
		}
	}
}

// P13.1: Right: money that is not just the price of what is needed and of what came, even where that is more than a number holds.
func TestRightOfMoney(t *testing.T) {
	for _, c := range []struct {
		need, done, price, amount, caught int
		want                              bool
	}{
		{5, 2, 7, 35, 14, true},
		{5, 2, 7, 36, 14, false},
		{5, 2, 7, 34, 14, false},
		{5, 2, 7, 35, 13, false},
		{5, 2, 7, 35, 15, false},
		{5, 2, 7, 35, 0, false},
		{mostUnits, 0, 1 << 20, mostMoney, 0, true},
		{mostUnits, mostUnits - 1, 1 << 20, mostMoney, mostMoney - 1<<20, true},
		{mostUnits, 0, 1<<20 + 1, mostMoney + mostUnits, 0, false},
		{mostUnits, 0, mostUnits, 1 << 60, 0, false},
		{mostUnits, 0, mostUnits, mostMoney, 0, false},
		{1 << 32, 0, 1 << 32, 0, 0, false},
		{1 << 40, 0, 1 << 40, 0, 0, false},
		{1 << 62, 0, 4, 0, 0, false},
		{-5, 0, -7, 35, 0, false},
		{5, -2, 7, 35, -14, false},
		{5, 0, -7, -35, 0, false},
		{0, 0, 7, 0, 0, false},
		{5, 0, 0, 0, 0, false},
	} {
		o := waiting(0, true)
		o.Need, o.Done, o.Price, o.Pay.Amount, o.Pay.Caught = c.need, c.done, c.price, c.amount, c.caught
		if isOrder(o) != c.want || order.Right(o) != c.want {
			t.Errorf("Right(%+v) = %v", o, order.Right(o))
		}
	}
}

// P13.1: asking that may not be is no order's.
func TestRightOfAsking(t *testing.T) {
	for _, c := range []struct {
		a    api.Ask
		want bool
	}{
		{api.Ask{}, true},
		{api.Ask{State: 1, Until: 0}, true},
		{api.Ask{State: 2, Until: 5}, true},
		{api.Ask{State: 3, Until: mostTick}, true},
		{api.Ask{State: 0, Until: 5}, false},
		{api.Ask{State: 4, Until: 5}, false},
		{api.Ask{State: -1, Until: 5}, false},
		{api.Ask{State: 1, Until: -1}, false},
		{api.Ask{State: 2, Until: mostTick + 1}, false},
	} {
		for _, o := range ordersOfEachPhase() {
			o.Ask = c.a
			if order.Right(o) != c.want {
				t.Errorf("Right(%+v) = %v", o, order.Right(o))
			}
		}
	}
}

// P13.2: Wants: written out.
func TestWants(t *testing.T) {
	renewing, over := waiting(2, true), waiting(2, true)
	renewing.Pay.State, over.Pay.Caught = api.PRenew, 15
	for _, c := range []struct {
		o         api.Order
		free, now int
		want      int
	}{
		{waiting(2, true), 1, 0, 1},
		{waiting(2, true), 2, 19, 2},
		{waiting(2, true), 3, 19, 3},
		{waiting(2, true), 4, 19, 3},
		{waiting(2, true), math.MaxInt, math.MinInt, 3},
		{waiting(2, true), 0, 0, 0},
		{waiting(2, true), -1, 0, 0},
		{waiting(2, true), math.MinInt, 0, 0},
		{waiting(2, true), 3, 20, 0},
		{waiting(2, true), 3, math.MaxInt, 0},
		{waiting(2, false), 1, 0, 0},
		{waiting(2, false), 2, 0, 0},
		{waiting(2, false), 3, 19, 3},
		{waiting(2, false), 4, -5, 3},
		{waiting(2, false), 3, 20, 0},
		{waiting(4, false), 1, 0, 1},
		{waiting(4, false), 0, 0, 0},
		{renewing, 3, 0, 0},
		{over, 3, 0, 0},
		{with(waiting(2, true), api.PSend, load(1)), 3, 0, 0},
		{ending(waiting(2, true)), 3, 0, 0},
		{closed(waiting(2, true), api.PPart), 3, 0, 0},
		{closed(waiting(5, true), api.PDone), 3, 0, 0},
		{closed(waiting(0, true), api.PCancel), 3, 0, 0},
		{waiting(5, true), 3, 0, 0},
		{api.Order{}, 3, 0, 0},
	} {
		if got := wanted(t, c.o, c.free, c.now); got != c.want {
			t.Errorf("Wants(%+v, %d, %d) = %d; want %d", c.o, c.free, c.now, got, c.want)
		}
	}
}

// P13.2: Wants: it takes no more than is free, nor than it lacks, and what it takes may be sent.
func TestWhatItWantsMayBeSent(t *testing.T) {
	for _, o := range ordersThatMayBe() {
		for _, free := range edges() {
			n := wanted(t, o, free, 19)
			if n == 0 {
				continue
			}
			if n > free || n > order.Lack(o) || !o.Split && n != order.Lack(o) {
				t.Errorf("Wants(%+v, %d) = %d", o, free, n)
			}
			if _, e := sent(t, o, api.Load{Sku: o.Sku, Units: n, Counts: n, Key: 1}); e != api.OK {
				t.Errorf("Send of %d, of %+v: %d", n, o, e)
			}
		}
	}
}

// P13.3: Send: which error comes first.
func TestSend(t *testing.T) {
	bad := waiting(2, true)
	bad.Seq = 0
	for _, c := range []struct {
		o api.Order
		l api.Load
		e api.Errno
	}{
		{waiting(2, true), load(3), api.OK},
		{waiting(2, false), load(1), api.OK}, // in parts it may be sent, whatever it would take
		{waiting(2, true), load(4), api.ErrArg},
		{waiting(2, true), api.Load{}, api.ErrArg},
		{with(waiting(2, true), api.PSend, load(3)), load(3), api.ErrState},
		{with(waiting(2, true), api.PSend, load(3)), load(4), api.ErrState},
		{closed(waiting(5, true), api.PDone), load(1), api.ErrState},
		{closed(waiting(2, true), api.PPart), api.Load{}, api.ErrState},
		{closed(waiting(0, true), api.PCancel), load(1), api.ErrState},
		{bad, load(3), api.ErrArg},
		{with(bad, api.PSend, load(3)), load(3), api.ErrArg},
		{ending(waiting(2, true)), load(3), api.ErrArg},
		{api.Order{}, load(3), api.ErrArg},
	} {
		if got, e := sent(t, c.o, c.l); e != c.e || e != api.OK && got != (api.Order{}) {
			t.Errorf("Send(%+v, %+v) = %+v, %d; want %d", c.o, c.l, got, e, c.e)
		}
	}
	renewing := waiting(2, true)
	renewing.Pay.State, renewing.Ask = api.PRenew, api.Ask{State: api.ANo, Until: 3}
	if got, e := order.Send(renewing, load(3)); got != with(renewing, api.PSend, load(3)) || e != api.OK {
		t.Errorf("Send = %+v, %d", got, e)
	}
}

// P13.3: Came: what it comes to, of all that is sent, whether it ends or not.
func TestCame(t *testing.T) {
	for done := range 5 {
		for n := 1; n <= 5-done; n++ {
			for _, l := range []api.Load{load(n), {Sku: "mug", Units: 100, Counts: n, Key: 3}} {
				o := with(waiting(done, true), api.PSend, l)
				want, wantEnding := waiting(done+n, true), closed(waiting(done+n, true), api.PPart)
				if done+n == 5 {
					want, wantEnding = closed(want, api.PDone), closed(want, api.PDone)
				}
				if got, price, e := came(t, o); got != want || price != 7*n || e != api.OK {
					t.Errorf("Came(%+v) = %+v, %d, %d", o, got, price, e)
				}
				if got, price, e := came(t, ending(o)); got != wantEnding || price != 7*n || e != api.OK {
					t.Errorf("Came(%+v) = %+v, %d, %d", ending(o), got, price, e)
				}
			}
		}
	}
	for _, o := range ordersThatMayBe() {
		if got, price, e := came(t, o); o.Phase != api.PSend && (got != (api.Order{}) || price != 0 || e != api.ErrState) {
			t.Errorf("Came(%+v) = %+v, %d, %d", o, got, price, e)
		}
	}
	great := greatOrders()[1]
	if got, price, e := came(t, great); price != mostMoney || got.Pay.Caught != mostMoney || got.Phase != api.PDone || e != api.OK {
		t.Errorf("Came(%+v) = %+v, %d, %d", great, got, price, e)
	}
}

// P13.3: what came is caught even where the money is to be promised anew, which it stays, unless it is closed.
func TestCameOfMoneyThatLapsed(t *testing.T) {
	o := with(waiting(0, true), api.PSend, load(3))
	o.Pay.State, o.Ask = api.PRenew, api.Ask{State: api.AYes, Until: 50}
	want := waiting(3, true)
	want.Pay.State, want.Ask = api.PRenew, o.Ask
	if got, price, e := came(t, o); got != want || price != 21 || e != api.OK {
		t.Errorf("Came = %+v, %d, %d", got, price, e)
	}
	if got, price, e := came(t, ending(o)); got != closed(want, api.PPart) || price != 21 || e != api.OK {
		t.Errorf("Came = %+v, %d, %d", got, price, e)
	}
}

// P13.3: End: of each phase.
func TestEnd(t *testing.T) {
	for _, o := range ordersThatMayBe() {
		got, e := ended(t, o)
		want, wantE := o, api.OK
		switch {
		case o.Phase == api.PWait && o.Done == 0:
			want = closed(o, api.PCancel)
		case o.Phase == api.PWait:
			want = closed(o, api.PPart)
		case o.Phase == api.PSend && !o.Ends:
			want = ending(o)
		default:
			want, wantE = api.Order{}, api.ErrState
		}
		if got != want || e != wantE {
			t.Errorf("End(%+v) = %+v, %d", o, got, e)
		}
	}
}

// P13.1 to P13.3 and R2: orders that may not be are refused by all, whatever else is amiss, and nothing is told beside that.
func TestOrdersThatMayNotBe(t *testing.T) {
	many := 0
	for _, o := range ordersThatMayBe() {
		for _, bad := range besides(o) {
			if isOrder(bad) {
				continue
			}
			many++
			if order.Right(bad) || order.Open(bad) || order.Lack(bad) != 0 || order.Wants(bad, 9, 0) != 0 {
				t.Fatalf("it may not be: %+v", bad)
			}
			if got, e := order.Send(bad, load(1)); got != (api.Order{}) || e != api.ErrArg {
				t.Fatalf("Send(%+v) = %+v, %d", bad, got, e)
			}
			if got, price, e := order.Came(bad); got != (api.Order{}) || price != 0 || e != api.ErrArg {
				t.Fatalf("Came(%+v) = %+v, %d, %d", bad, got, price, e)
			}
			if got, e := order.End(bad); got != (api.Order{}) || e != api.ErrArg {
				t.Fatalf("End(%+v) = %+v, %d", bad, got, e)
			}
		}
	}
	if many < 10000 {
		t.Errorf("%d orders that may not be", many)
	}
}

// P1: all calls at all edges, of orders that may be and that may not.
func TestAllCallsAtEdges(t *testing.T) {
	for _, o := range ordersThatMayBe() {
		for _, l := range loads() {
			each(t, o, l, 3, 19)
		}
		for _, free := range edges() {
			for _, now := range append(edges(), 19, 20, 21) {
				each(t, o, load(3), free, now)
			}
		}
		for _, other := range besides(o) {
			each(t, other, load(2), 2, 19)
		}
	}
}

// P1: all calls of orders whose numbers are anything, two of them at once.
func TestAllCallsAtTwoEdges(t *testing.T) {
	for _, o := range []api.Order{waiting(2, true), ending(with(waiting(2, false), api.PSend, load(2))), closed(waiting(5, true), api.PDone)} {
		for i := range numbers(&o) {
			for j := range i {
				for _, a := range edges() {
					for _, b := range edges() {
						changed := o
						*numbers(&changed)[i], *numbers(&changed)[j] = a, b
						each(t, changed, load(2), 2, 19)
					}
				}
			}
		}
	}
}

// staysSuch holds what a step may make of an order that may be.
func staysSuch(t *testing.T, before, after api.Order, price int) {
	t.Helper()
	switch {
	case !order.Right(after):
		t.Fatalf("%+v: %+v, which may not be", before, after)
	case after.Pay.Caught != after.Done*after.Price || after.Pay.Caught-before.Pay.Caught != price || price < 0:
		t.Fatalf("%+v: %+v: it is not caught at its price: %d", before, after, price)
	case after.Done-before.Done != price/before.Price:
		t.Fatalf("%+v: %+v: %d came", before, after, price)
	case !order.Open(before) && after != before:
		t.Fatalf("%+v, which is not open: %+v", before, after)
	}
}

// steps are all that may be done to an order: itself, if it is refused, and how much is caught.
func steps(t *testing.T) []func(o api.Order) (api.Order, int) {
	all := []func(o api.Order) (api.Order, int){
		func(o api.Order) (api.Order, int) {
			if after, n, e := came(t, o); e == api.OK {
				return after, n
			}
			return o, 0
		},
		func(o api.Order) (api.Order, int) {
			if after, e := ended(t, o); e == api.OK {
				return after, 0
			}
			return o, 0
		},
	}
	for n := range 7 {
		for _, l := range []api.Load{load(n), {Sku: "mug", Units: 9, Counts: n, Key: 1}} {
			all = append(all, func(o api.Order) (api.Order, int) {
				if after, e := sent(t, o, l); e == api.OK {
					return after, 0
				}
				return o, 0
			})
		}
	}
	return all
}

// P13.4: what may be stays such, whatever is done to it: all that an order comes to.
func TestAllThatIsComeTo(t *testing.T) {
	first, e := made(t, waiting(0, false), 20)
	if e != api.OK {
		t.Fatal(e)
	}
	seen := map[api.Order]bool{first: true}
	phases := map[int]int{}
	for next := []api.Order{first}; len(next) > 0; next = next[1:] {
		phases[next[0].Phase]++
		for _, step := range steps(t) {
			after, price := step(next[0])
			staysSuch(t, next[0], after, price)
			if !seen[after] {
				seen[after] = true
				next = append(next, after)
			}
		}
	}
	// 0 to 4 may have come to one that waits; of these 1 to 5 may be sent, of cups or of mugs, that end or not.
	want := map[int]int{api.PWait: 5, api.PSend: 4 * (5 + 4 + 3 + 2 + 1), api.PDone: 1, api.PPart: 4, api.PCancel: 1}
	for phase, n := range want {
		if phases[phase] != n {
			t.Errorf("of phase %d are come to: %d; want %d", phase, phases[phase], n)
		}
	}
}

// P13.4: each order that is open comes to its end by End, and Came.
func TestEachComesToItsEnd(t *testing.T) {
	for _, o := range ordersThatMayBe() {
		if !order.Open(o) {
			continue
		}
		if !o.Ends {
			var e api.Errno
			if o, e = ended(t, o); e != api.OK {
				t.Fatal(e)
			}
		}
		if order.Open(o) {
			var e api.Errno
			if o, _, e = came(t, o); e != api.OK {
				t.Fatal(e)
			}
		}
		if order.Open(o) || !order.Right(o) || o.Pay.State != api.PClosed {
			t.Errorf("it is not at its end: %+v", o)
		}
	}
}

// P13.4: an order that is not open stays as it is: all that is done to it is refused.
func TestWhatIsNotOpenStays(t *testing.T) {
	many := 0
	for _, o := range ordersThatMayBe() {
		if order.Open(o) {
			continue
		}
		many++
		for i, step := range steps(t) {
			if after, price := step(o); after != o || price != 0 {
				t.Errorf("step %d of %+v: %+v", i, o, after)
			}
		}
	}
	if many < 20 {
		t.Errorf("%d are not open", many)
	}
}

// R1: calls that run side by side, or one behind the other, know nothing of each other.
func TestNothingIsKept(t *testing.T) {
	var all sync.WaitGroup
	for i := range 16 {
		all.Go(func() {
			o := with(waiting(i%3, true), api.PSend, load(1+i%3))
			for range 100 {
				if got, e := order.New(o, i); got.Pay.Until != i || got.Done != 0 || e != api.OK {
					t.Error("New answers something else")
				}
				a, e := order.Send(waiting(i%3, true), o.Load)
				if a != o || e != api.OK {
					t.Error("Send answers something else")
				}
				b, n, e := order.Came(o)
				if want, wantN, wantE := cameAnswer(o); b != want || n != wantN || e != wantE {
					t.Error("Came answers something else")
				}
				c, e := order.End(o)
				if want, wantE := endAnswer(o); c != want || e != wantE {
					t.Error("End answers something else")
				}
				if !order.Right(o) || !order.Open(o) || order.Lack(o) != 5-i%3 || order.Wants(waiting(i%3, true), 2, 0) != 2 {
					t.Error("Right, Open, Lack or Wants answers something else")
				}
			}
		})
	}
	all.Wait()
}
