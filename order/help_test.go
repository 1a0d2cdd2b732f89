package order_test

import (
	"math"
	"math/big"
	"slices"
	"testing"

	"tarry/api"
	"tarry/order"
)

const (
	mostUnits = 1 << 30
	mostMoney = 1 << 50
	mostTick  = 1 << 40
)

// isName tells by a text's letters whether it is a name.
func isName(s string) bool {
	for i := range len(s) {
		if s[i] < '0' || s[i] > 'z' || '9' < s[i] && s[i] < 'a' {
			return false
		}
	}
	return uint(len(s)-1) < 16
}

// isTimes tells by numbers that have no bounds whether a product is that.
func isTimes(n, a, b int) bool {
	return new(big.Int).Mul(big.NewInt(int64(a)), big.NewInt(int64(b))).Cmp(big.NewInt(int64(n))) == 0
}

// isUnits tells by numbers that have no sign whether that many may be.
func isUnits(n int) bool { return uint(n-1) < mostUnits }

func isTick(n int) bool { return uint(n) <= mostTick }

// isNumbers tells of all but an order's phase and name whether they may be.
func isNumbers(o api.Order) bool {
	p, a := o.Pay, o.Ask
	return uint(o.Class) <= 3 && uint(o.Seq-1) < mostTick && uint(o.Id-1) < mostTick &&
		isUnits(o.Need) && isUnits(o.Price) && uint(o.Done) <= uint(o.Need) && isTick(o.Cutoff) &&
		uint(p.Amount) <= mostMoney && uint(p.Caught) <= uint(p.Amount) && isTick(p.Until) && uint(p.State-1) < 3 &&
		isTimes(p.Amount, o.Need, o.Price) && isTimes(p.Caught, o.Done, o.Price) &&
		uint(a.State) <= 3 && isTick(a.Until) && (a.State != 0 || a.Until == 0)
}

// isOrder tells by the words whether an order may be.
func isOrder(o api.Order) bool {
	if !isName(o.Sku) || !isNumbers(o) {
		return false
	}
	none, closed := o.Load == api.Load{} && !o.Ends, o.Pay.State == 3
	switch o.Phase {
	case 1:
		return o.Done != o.Need && none && !closed
	case 2:
		l := o.Load
		own := l.Sku != o.Sku || l.Units == l.Counts
		return isName(l.Sku) && isUnits(l.Units) && uint(l.Counts-1) < uint(o.Need-o.Done) && uint(l.Key-1) < mostTick && own && !closed
	case 3:
		return o.Done == o.Need && none && closed
	case 4:
		return o.Done != o.Need && o.Done != 0 && none && closed
	case 5:
		return o.Done == 0 && none && closed
	}
	return false
}

// The answers that calls must give: each by the words of its promise.

func newAnswer(o api.Order, until int) (api.Order, api.Errno) {
	if !isUnits(o.Need) || !isUnits(o.Price) || !isTick(until) {
		return api.Order{}, api.ErrArg
	}
	amount := new(big.Int).Mul(big.NewInt(int64(o.Need)), big.NewInt(int64(o.Price)))
	if amount.Cmp(big.NewInt(mostMoney)) > 0 {
		return api.Order{}, api.ErrOver
	}
	o.Done, o.Phase, o.Load, o.Ask, o.Ends = 0, 1, api.Load{}, api.Ask{}, false
	o.Pay = api.Pay{Amount: int(amount.Int64()), Caught: 0, Until: until, State: 1}
	if !isOrder(o) {
		return api.Order{}, api.ErrArg
	}
	return o, api.OK
}

func lackAnswer(o api.Order) int {
	if !isOrder(o) {
		return 0
	}
	return o.Need - o.Done
}

func wantsAnswer(o api.Order, free, now int) int {
	switch {
	case !isOrder(o) || o.Phase != 1 || o.Pay.State != 1 || now >= o.Pay.Until || free <= 0:
		return 0
	case o.Split:
		return min(free, o.Need-o.Done)
	case free < o.Need-o.Done:
		return 0
	}
	return o.Need - o.Done
}

func sendAnswer(o api.Order, l api.Load) (api.Order, api.Errno) {
	if !isOrder(o) {
		return api.Order{}, api.ErrArg
	}
	if o.Phase != 1 {
		return api.Order{}, api.ErrState
	}
	o.Phase, o.Load = 2, l
	if !isOrder(o) {
		return api.Order{}, api.ErrArg
	}
	return o, api.OK
}

func cameAnswer(o api.Order) (api.Order, int, api.Errno) {
	if !isOrder(o) {
		return api.Order{}, 0, api.ErrArg
	}
	if o.Phase != 2 {
		return api.Order{}, 0, api.ErrState
	}
	n, ends := o.Load.Counts, o.Ends
	o.Done += n
	o.Pay.Caught += n * o.Price
	o.Load, o.Ends = api.Load{}, false
	switch {
	case o.Done == o.Need:
		o.Phase, o.Pay.State = 3, 3
	case ends:
		o.Phase, o.Pay.State = 4, 3
	default:
		o.Phase = 1
	}
	return o, n * o.Price, api.OK
}

func endAnswer(o api.Order) (api.Order, api.Errno) {
	switch {
	case !isOrder(o):
		return api.Order{}, api.ErrArg
	case o.Phase > 2 || o.Ends:
		return api.Order{}, api.ErrState
	case o.Phase == 2:
		o.Ends = true
		return o, api.OK
	case o.Done == 0:
		o.Phase = 5
	default:
		o.Phase = 4
	}
	o.Pay.State = 3
	return o, api.OK
}

func openAnswer(o api.Order) bool {
	return isOrder(o) && o.Phase <= 2
}

// answered holds an order that is answered against what it must be.
func answered(t *testing.T, call string, o, got api.Order, e api.Errno, want api.Order, wantE api.Errno) {
	t.Helper()
	if got != want || e != wantE {
		t.Fatalf("%s of\n%+v:\n%+v, %d; want\n%+v, %d", call, o, got, e, want, wantE)
	}
	if e == api.OK && !order.Right(got) {
		t.Fatalf("%s of\n%+v:\n%+v, which may not be", call, o, got)
	}
}

// made is New's answer, held so.
func made(t *testing.T, o api.Order, until int) (api.Order, api.Errno) {
	t.Helper()
	got, e := order.New(o, until)
	want, wantE := newAnswer(o, until)
	answered(t, "New", o, got, e, want, wantE)
	return got, e
}

// sent is Send's answer, held so.
func sent(t *testing.T, o api.Order, l api.Load) (api.Order, api.Errno) {
	t.Helper()
	got, e := order.Send(o, l)
	want, wantE := sendAnswer(o, l)
	answered(t, "Send", o, got, e, want, wantE)
	return got, e
}

// came is Came's answer, held so.
func came(t *testing.T, o api.Order) (api.Order, int, api.Errno) {
	t.Helper()
	got, n, e := order.Came(o)
	want, wantN, wantE := cameAnswer(o)
	answered(t, "Came", o, got, e, want, wantE)
	if n != wantN {
		t.Fatalf("Came of\n%+v: %d; want %d", o, n, wantN)
	}
	return got, n, e
}

// ended is End's answer, held so.
func ended(t *testing.T, o api.Order) (api.Order, api.Errno) {
	t.Helper()
	got, e := order.End(o)
	want, wantE := endAnswer(o)
	answered(t, "End", o, got, e, want, wantE)
	return got, e
}

// wanted is Wants' answer, held so.
func wanted(t *testing.T, o api.Order, free, now int) int {
	t.Helper()
	got := order.Wants(o, free, now)
	if want := wantsAnswer(o, free, now); got != want {
		t.Fatalf("Wants(%+v, %d, %d) = %d; want %d", o, free, now, got, want)
	}
	return got
}

// each are all calls' answers of an order, and of a load and two numbers beside it, held so.
func each(t *testing.T, o api.Order, l api.Load, free, now int) {
	t.Helper()
	if order.Right(o) != isOrder(o) {
		t.Fatalf("Right(%+v) = %v", o, order.Right(o))
	}
	if order.Open(o) != openAnswer(o) {
		t.Fatalf("Open(%+v) = %v", o, order.Open(o))
	}
	if order.Lack(o) != lackAnswer(o) {
		t.Fatalf("Lack(%+v) = %v", o, order.Lack(o))
	}
	wanted(t, o, free, now)
	made(t, o, now)
	sent(t, o, l)
	came(t, o)
	ended(t, o)
}

// edges are numbers at and beside all bounds, and far from them.
func edges() []int {
	return []int{
		math.MinInt, math.MinInt + 1, -mostMoney, -mostTick, -1, 0, 1, 2, 3, 4, 5, 6, 35,
		mostUnits - 1, mostUnits, mostUnits + 1, 1 << 32, 1<<32 + 1, mostTick - 1, mostTick, mostTick + 1,
		mostMoney - 1, mostMoney, mostMoney + 1, 1 << 60, 1<<62 + 1, math.MaxInt - 1, math.MaxInt,
	}
}

// waiting is an order for 5 cups of 7 each, of which so many came.
func waiting(done int, split bool) api.Order {
	return api.Order{
		Id: 9, Sku: "cup", Class: 1, Seq: 4, Need: 5, Done: done, Price: 7, Cutoff: 60, Split: split, Phase: api.PWait,
		Pay: api.Pay{Amount: 35, Caught: 7 * done, Until: 20, State: api.PGood},
	}
}

// load is so many cups that are sent.
func load(n int) api.Load {
	return api.Load{Sku: "cup", Units: n, Counts: n, Key: 3}
}

// with is an order of another phase, with that load.
func with(o api.Order, phase int, l api.Load) api.Order {
	o.Phase, o.Load = phase, l
	return o
}

// closed is an order of another phase, with its money closed.
func closed(o api.Order, phase int) api.Order {
	o.Phase, o.Pay.State = phase, api.PClosed
	return o
}

// ending is an order that ends when what was sent has come.
func ending(o api.Order) api.Order {
	o.Ends = true
	return o
}

// ordersOfEachPhase are such as may be.
func ordersOfEachPhase() []api.Order {
	var l []api.Order
	for _, split := range []bool{false, true} {
		for done := range 5 {
			w := waiting(done, split)
			l = append(l, w)
			for n := 1; n <= 5-done; n++ {
				l = append(l, with(w, 2, load(n)), ending(with(w, 2, load(n))), with(w, 2, api.Load{Sku: "mug", Units: 9, Counts: n, Key: 8}))
			}
			if done > 0 {
				l = append(l, closed(w, 4))
			}
		}
		l = append(l, closed(waiting(5, split), 3), closed(waiting(0, split), 5))
	}
	return l
}

// ordersThatMayBe are those, also with other money and asking, and some at the bounds.
func ordersThatMayBe() []api.Order {
	var l []api.Order
	for _, o := range ordersOfEachPhase() {
		l = append(l, o)
		o.Ask = api.Ask{State: 1 + len(l)%3, Until: len(l)}
		l = append(l, o)
		if o.Phase <= 2 {
			o.Pay.State = 2
			l = append(l, o)
		}
	}
	return append(l, greatOrders()...)
}

// greatOrders have numbers at the bounds.
func greatOrders() []api.Order {
	name := "abcdefghij012789"
	o := api.Order{
		Id: mostTick, Sku: name, Class: 3, Seq: mostTick, Need: mostUnits, Price: 1 << 20, Cutoff: mostTick, Phase: api.PWait,
		Pay: api.Pay{Amount: mostMoney, Until: mostTick, State: api.PGood}, Ask: api.Ask{State: 3, Until: mostTick},
	}
	all := api.Load{Sku: name, Units: mostUnits, Counts: mostUnits, Key: mostTick}
	l := []api.Order{o, with(o, 2, all), with(o, 2, api.Load{Sku: "z", Units: mostUnits, Counts: 1, Key: 1}), closed(o, 5)}
	o.Need, o.Price = 1<<20, mostUnits
	l = append(l, o, with(o, 2, api.Load{Sku: name, Units: 1 << 20, Counts: 1 << 20, Key: 1}))
	o.Done, o.Pay.Caught = 1<<20, mostMoney
	l = append(l, closed(o, 3))
	o.Done, o.Pay.Caught = 1<<20-1, mostMoney-mostUnits
	l = append(l, o, closed(o, 4), with(o, 2, api.Load{Sku: name, Units: 1, Counts: 1, Key: mostTick}))
	least := api.Order{Id: 1, Sku: "0", Seq: 1, Need: 1, Price: 1, Phase: api.PWait, Pay: api.Pay{Amount: 1, State: api.PRenew}}
	return append(l, least, with(least, 2, api.Load{Sku: "0", Units: 1, Counts: 1, Key: 1}), closed(least, 5))
}

// numbers are all of an order's numbers.
func numbers(o *api.Order) []*int {
	return []*int{
		&o.Id, &o.Class, &o.Seq, &o.Need, &o.Done, &o.Price, &o.Cutoff, &o.Phase,
		&o.Load.Units, &o.Load.Counts, &o.Load.Key,
		&o.Pay.Amount, &o.Pay.Caught, &o.Pay.Until, &o.Pay.State, &o.Ask.State, &o.Ask.Until,
	}
}

// texts are some that are names, and some that are none.
func texts() []string {
	return []string{
		"cup", "mug", "a", "z", "0", "9", "abcdefghij012789", "",
		"abcdefghij0127890", "Cup", "cUp", "cuP", "cu p", " cup", "cup ", "cup\x00", "\x00", "c\xffp", "é", "`", "{", "/", ":", "@", "-", "cup\n",
	}
}

// besides are all that an order becomes if one of its numbers, texts or tokens is another one.
func besides(o api.Order) []api.Order {
	var l []api.Order
	for i := range numbers(&o) {
		n := *numbers(&o)[i]
		others := append(edges(), n-1, n, n+1, n+7)
		slices.Sort(others)
		for _, other := range slices.Compact(others) {
			other, changed := other, o
			*numbers(&changed)[i] = other
			l = append(l, changed)
		}
	}
	for _, s := range texts() {
		of, from := o, o
		of.Sku, from.Load.Sku = s, s
		l = append(l, of, from)
	}
	split, ends := o, o
	split.Split, ends.Ends = !o.Split, !o.Ends
	return append(l, split, ends)
}

// loads are some that may be sent for an order, and some that may not.
func loads() []api.Load {
	l := []api.Load{{}}
	for _, sku := range []string{"cup", "mug", "", "Mug"} {
		for _, n := range []int{-1, 0, 1, 3, 4, 5, 6, mostUnits, mostUnits + 1} {
			l = append(l, api.Load{Sku: sku, Units: n, Counts: n, Key: 3}, api.Load{Sku: sku, Units: 2, Counts: n, Key: 3}, api.Load{Sku: sku, Units: n, Counts: 2, Key: 3})
		}
		for _, key := range []int{math.MinInt, -1, 0, 1, mostTick, mostTick + 1, math.MaxInt} {
			l = append(l, api.Load{Sku: sku, Units: 2, Counts: 2, Key: key})
		}
	}
	return l
}
