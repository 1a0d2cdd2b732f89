package state_test

import (
	"maps"
	"reflect"
	"slices"
	"strings"
	"sync"
	"testing"

	"tarry/api"
	"tarry/order"
	"tarry/state"
)

// The chapter's example: the state of nothing is a row of five rows of none, and one of three 0.
func TestExample(t *testing.T) {
	const want = "\x0c" + "\x02\x00" + "\x02\x00" + "\x02\x00" + "\x02\x00" + "\x02\x00" + "\x0e\x06\x02\x00\x02\x00\x02\x00"
	if text, e := state.Text(api.State{}); text != want || e != api.OK {
		t.Errorf("Text = %q, %d", text, e)
	}
	if s, e := state.Read(want); !like(s, api.State{}) || e != api.OK {
		t.Errorf("Read = %+v, %d", s, e)
	}
}

// P16.1 and P16.2: one state with one of each, all written out.
func TestWrittenOut(t *testing.T) {
	s := api.State{
		Goods: api.Goods{Skus: []string{"cup", "mug"}, Subs: []api.Sub{{From: "cup", To: "mug", Rank: 9, Num: 3, Den: 2}}},
		Stock: []api.Row{{Sku: "mug", In: 100, Free: 10, Held: 8, Shipped: 80, Lost: 2}},
		Orders: []api.Order{
			{
				Id: 3, Sku: "cup", Class: 2, Seq: 7, Need: 9, Done: 1, Price: 5, Cutoff: 65, Split: true, Phase: api.PSend,
				Load: api.Load{Sku: "mug", Units: 8, Counts: 6, Key: 4},
				Pay:  api.Pay{Amount: 45, Caught: 5, Until: 50, State: api.PGood},
				Ask:  api.Ask{State: api.AYes, Until: 40},
				Ends: true,
			},
			{
				Id: 300, Sku: "mug", Class: 3, Seq: 6, Need: 2, Price: 4, Cutoff: 99, Phase: api.PWait,
				Pay: api.Pay{Amount: 8, Until: 30, State: api.PRenew},
				Ask: api.Ask{State: api.AAsked, Until: 44},
			},
		},
		Waits:  []api.Line{{Sku: "mug", Wait: api.Wait{Class: 3, Seq: 6, Order: 300}}},
		Timers: []api.Timer{{At: 44, Kind: api.KConsent, Order: 300}, {At: 99, Kind: api.KCutoff, Order: 300}},
		Out: api.Outbox{Last: 20, Rows: []api.Out{
			{Key: 4, Kind: api.OShip, Order: 3, Due: 11}, {Key: 8, Kind: api.OAsk, Order: 300, Due: 12}, {Key: 10, Kind: api.ORenew, Order: 300, Due: 0},
		}},
		Now: 31,
		Seq: 64,
	}
	if !state.Right(s) {
		t.Fatal("it may be")
	}
	want := strings.Join([]string{
		"\x0c",
		"\x12", "\x04\x06cup\x06mug",
		"\x22", "\x02", "\x1e", "\x0a\x06cup\x06mug\x02\x12\x02\x06\x02\x04",
		"\x26", "\x02", "\x22", "\x0c\x06mug\x04\xc8\x01\x02\x14\x02\x10\x04\xa0\x01\x02\x04",
		"\xc2\x01", "\x04",
		"\x60", "\x2a\x02\x06\x06cup\x02\x04\x02\x0e\x02\x12\x02\x02\x02\x0a\x04\x82\x01\x02\x02\x02\x04\x06mug\x02\x10\x02\x0c\x02\x08\x02\x5a\x02\x0a\x02\x64\x02\x02\x02\x04\x02\x50\x02\x02",
		"\x5c", "\x2a\x04\xd8\x04\x06mug\x02\x06\x02\x0c\x02\x04\x02\x00\x02\x08\x04\xc6\x01\x02\x00\x02\x02\x00\x02\x00\x02\x00\x02\x00\x02\x10\x02\x00\x02\x3c\x02\x04\x02\x02\x02\x58\x02\x00",
		"\x42", "\x06",
		"\x12", "\x08\x02\x08\x02\x02\x02\x06\x02\x16",
		"\x14", "\x08\x02\x10\x02\x06\x04\xd8\x04\x02\x18",
		"\x14", "\x08\x02\x14\x02\x04\x04\xd8\x04\x02\x00",
		"\x10", "\x06\x02\x28\x02\x3e\x04\x80\x01",
	}, "")
	if text, e := state.Text(s); text != want || e != api.OK {
		t.Errorf("Text =\n%q, %d; want\n%q", text, e, want)
	}
	if got, e := state.Read(want); !like(got, s) || e != api.OK {
		t.Errorf("Read = %+v, %d", got, e)
	}
}

// P16.1: Waits and Timers, written out: just who waits does; just who is live has timers, of its money just if it is good, of its asking just if it is asked or said yes to.
func TestIndexes(t *testing.T) {
	s := ofAll()
	waits, e := state.Waits(s.Orders)
	if want := []api.Line{
		{Sku: "cup", Wait: api.Wait{Class: 0, Seq: 90, Order: 90}},
		{Sku: "cup", Wait: api.Wait{Class: 2, Seq: 1, Order: 1}},
		{Sku: "mug", Wait: api.Wait{Class: 1, Seq: 200, Order: 200}},
	}; e != api.OK || !slices.Equal(waits, want) {
		t.Errorf("Waits = %v, %d", waits, e)
	}
	timers, e := state.Timers(s.Orders)
	if want := []api.Timer{
		{At: 20, Kind: api.KConsent, Order: 90},
		{At: 30, Kind: api.KConsent, Order: 2},
		{At: 41, Kind: api.KPay, Order: 1},
		{At: 61, Kind: api.KCutoff, Order: 1},
		{At: 62, Kind: api.KCutoff, Order: 2},
		{At: 130, Kind: api.KPay, Order: 90},
		{At: 150, Kind: api.KCutoff, Order: 90},
		{At: 260, Kind: api.KCutoff, Order: 200},
	}; e != api.OK || !slices.Equal(timers, want) {
		t.Errorf("Timers = %v, %d", timers, e)
	}
}

// P16.1: Timers: those of one time stand by their kinds, and of one kind by their orders.
func TestTimersOfOneTime(t *testing.T) {
	var l []api.Order
	for id := 1; id < 33; id++ {
		o := asking(waiting(id, "cup", 0, 1, 1), api.AAsked, 9)
		o.Cutoff, o.Pay.Until = 9, 9
		l = append(l, o)
	}
	timers, e := state.Timers(l)
	if e != api.OK || len(timers) != 96 {
		t.Fatalf("%d timers, %d", len(timers), e)
	}
	for i, x := range timers {
		if x != (api.Timer{At: 9, Kind: 1 + i/32, Order: 1 + i%32}) {
			t.Errorf("timer %d is %v", i, x)
		}
	}
}

// P16.1: Waits and Timers: orders that may not be are refused; those that are no state's, for their goods or times, are not.
func TestIndexesOfOrders(t *testing.T) {
	cup, other := waiting(4, "cup", 0, 1, 1), waiting(7, "cup", 0, 1, 1)
	early, late := cup, other
	late.Seq, late.Cutoff, late.Pay.Until = 1, 0, 0
	same, odd := other, other
	same.Seq, odd.Done = 4, 1
	for name, c := range map[string]struct {
		l    []api.Order
		want api.Errno
	}{
		"none":              {nil, api.OK},
		"an empty list":     {[]api.Order{}, api.OK},
		"one":               {[]api.Order{cup}, api.OK},
		"two":               {[]api.Order{cup, other}, api.OK},
		"came turned about": {[]api.Order{early, late}, api.OK},
		"32":                {many(9, 32).Orders, api.OK},
		"33":                {many(9, 33).Orders, api.ErrArg},
		"numbers fall":      {[]api.Order{other, cup}, api.ErrArg},
		"a number twice":    {[]api.Order{cup, cup}, api.ErrArg},
		"came at once":      {[]api.Order{cup, same}, api.ErrArg},
		"one that is odd":   {[]api.Order{cup, odd}, api.ErrArg},
		"one of zeros":      {[]api.Order{{}}, api.ErrArg},
		"a million":         {make([]api.Order, 1000000), api.ErrArg},
	} {
		if _, e := state.Waits(c.l); e != c.want {
			t.Errorf("%s: Waits tells %d", name, e)
		}
		if _, e := state.Timers(c.l); e != c.want {
			t.Errorf("%s: Timers tells %d", name, e)
		}
		if len(c.l) < 100 {
			heldOrders(t, c.l)
		}
	}
}

// P16.1: Live and Told, of all phases, moneys, askings and ends, of such as may be and of such as may not.
func TestLiveAndTold(t *testing.T) {
	may := map[int]int{}
	for phase := -1; phase < 7; phase++ {
		for money := range 5 {
			for asked := range 5 {
				for i := range 16 {
					o := asking(waiting(5, "cup", 0, 4, 3), asked, 9*(i%2))
					o.Phase, o.Pay.State, o.Ends = phase, money, i/2%2 == 1
					if i/4%2 == 1 {
						o = sending(o, "mug", 3, 2, 9)
						o.Phase = phase
					}
					o = come(o, []int{0, 2, 4}[i%3])
					heldOrder(t, o)
					if order.Right(o) {
						may[len(state.Told(o))]++
					}
				}
			}
		}
	}
	for n := range 4 {
		if may[n] < 3 {
			t.Errorf("just %d of them have told %d", may[n], n)
		}
	}
	for _, c := range []struct {
		name string
		o    api.Order
		live bool
		told []int
	}{
		{"waits", waiting(1, "cup", 0, 1, 1), true, nil},
		{"is asked", asking(waiting(1, "cup", 0, 1, 1), api.AAsked, 5), true, []int{3}},
		{"said yes", asking(waiting(1, "cup", 0, 1, 1), api.AYes, 5), true, nil},
		{"renews", renewing(waiting(1, "cup", 0, 1, 1)), true, []int{2}},
		{"is sent", sending(waiting(1, "cup", 0, 1, 1), "cup", 1, 1, 1), true, []int{1}},
		{"is sent all", sending(asking(renewing(waiting(1, "cup", 0, 1, 1)), api.AAsked, 5), "cup", 1, 1, 1), true, []int{1, 2, 3}},
		{"ends", ending(sending(asking(renewing(waiting(1, "cup", 0, 1, 1)), api.AAsked, 5), "cup", 1, 1, 1)), false, []int{1}},
		{"is over", asking(closed(waiting(1, "cup", 0, 1, 1), api.PCancel), api.AAsked, 5), false, nil},
		{"may not be", sending(renewing(api.Order{}), "cup", 1, 1, 1), false, nil},
		{"ends, and waits", ending(renewing(waiting(1, "cup", 0, 1, 1))), false, nil},
	} {
		if got := state.Told(c.o); state.Live(c.o) != c.live || !slices.Equal(got, c.told) {
			t.Errorf("%s: Live = %v, Told = %v", c.name, !c.live, got)
		}
	}
}

// P16.1 and P16.2: states that may be.
func TestStatesThatMayBe(t *testing.T) {
	for name, s := range statesThatMayBe() {
		if !state.Right(s) {
			t.Errorf("%s may be: %+v", name, s)
		}
		held(t, s)
	}
}

// P16.1 and P16.2: states that may not be have no text, and what their text would be is none's; whose indexes alone are amiss, that is another one's.
func TestStatesThatMayNotBe(t *testing.T) {
	for name, s := range statesThatMayNotBe() {
		if state.Right(s) {
			t.Errorf("%s may not be: %+v", name, s)
		}
		if text, e := state.Text(s); text != "" || e != api.ErrArg {
			t.Errorf("%s: Text = %q, %d", name, text, e)
		}
		held(t, s)
		indexed := remade(s, func(*api.State) {})
		if _, e := state.Read(bytesOf(s)); state.Right(indexed) != (e == api.OK) || e != api.OK && e != api.ErrSyntax {
			t.Errorf("%s: Read tells %d", name, e)
		}
	}
}

// P1, P16.1 and P16.2: each thing in a state is another one, at all edges; one of a list is gone, there twice, or turned about. What may be still may, and no more.
func TestBesides(t *testing.T) {
	may, not := 0, 0
	for _, s := range []api.State{{}, ofAll(), great(), over(), many(3, 3)} {
		besides(s, func(other api.State) {
			held(t, other)
			if state.Right(other) {
				may++
			} else {
				not++
			}
			remade := remade(other, func(*api.State) {})
			if !like(remade, other) {
				held(t, remade)
			}
		})
	}
	if may < 100 || not < 1000 {
		t.Errorf("%d may be, %d not", may, not)
	}
}

// P16.1: Right: what is held is the units of all loads of that name, added: of some names, in some rows.
func TestHeld(t *testing.T) {
	for cups := range 4 {
		for mugs := range 4 {
			for _, heldOf := range [][2]int{{0, 0}, {cups, mugs}, {mugs, cups}, {cups + mugs, 0}, {cups, mugs + 1}, {cups - 1, mugs}} {
				var l []api.Order
				for i := range cups + mugs {
					sku := "cup"
					if i >= cups {
						sku = "mug"
					}
					l = append(l, sending(waiting(i+1, "jar", 0, 5, 1), sku, 1, 5, i+1))
				}
				s := of("cup jar mug", l...)
				s.Stock = nil
				for i, sku := range []string{"cup", "mug"} {
					if n := heldOf[i]; n >= 0 && (n > 0 || i+cups+mugs > 3) {
						s.Stock = append(s.Stock, api.Row{Sku: sku, In: n, Held: n})
					}
				}
				if want := max(heldOf[0], 0) == cups && heldOf[1] == mugs; state.Right(s) != want || isState(s) != want {
					t.Errorf("%d cups and %d mugs, held %v: Right = %v", cups, mugs, heldOf, !want)
				}
			}
		}
	}
}

// P16.1: Right: 32 loads of the greatest size are more than can be held.
func TestHeldOfMany(t *testing.T) {
	var l []api.Order
	for id := 1; id < 33; id++ {
		l = append(l, sending(waiting(id, "jar", 0, 5, 1), "cup", 1<<30, 5, id))
	}
	for _, n := range []int{0, 1 << 30, 1<<35 - 1<<32, 1 << 35} {
		s := of("cup jar", l...)
		s.Stock = []api.Row{{Sku: "cup", In: n, Held: n}}
		if state.Right(s) {
			t.Errorf("%d are held", n)
		}
	}
}

// P16.1: Right: a timer is due above now, whosever it is: at now, and ahead of it, no state may be.
func TestTimersAboveNow(t *testing.T) {
	for name, s := range statesThatMayBe() {
		for _, x := range s.Timers {
			for now := x.At - 1; now < x.At+2; now++ {
				later := changed(s, func(s *api.State) { s.Now = now })
				if may := now < s.Timers[0].At; state.Right(later) != may {
					t.Errorf("%s at %d: Right = %v", name, now, !may)
				}
			}
		}
	}
}

// P16.1 and P5: Right: without one of its waits, timers or told, no state may be, nor with one more.
func TestNothingIsLeftOut(t *testing.T) {
	for name, s := range statesThatMayBe() {
		var l []api.State
		for i := range s.Waits {
			l = append(l, changed(s, func(s *api.State) { s.Waits = slices.Delete(s.Waits, i, i+1) }))
		}
		for i := range s.Timers {
			l = append(l, changed(s, func(s *api.State) { s.Timers = slices.Delete(s.Timers, i, i+1) }))
		}
		for i := range s.Out.Rows {
			l = append(l, changed(s, func(s *api.State) { s.Out.Rows = slices.Delete(s.Out.Rows, i, i+1) }))
		}
		l = append(l,
			changed(s, func(s *api.State) {
				s.Waits = append(s.Waits, api.Line{Sku: "zz", Wait: api.Wait{Class: 3, Seq: most, Order: 5000}})
			}),
			changed(s, func(s *api.State) { s.Timers = append(s.Timers, api.Timer{At: most, Kind: 3, Order: most}) }),
			changed(s, func(s *api.State) {
				s.Out.Last = most
				s.Out.Rows = append(s.Out.Rows, api.Out{Key: most, Kind: 2, Order: 5000})
			}))
		for _, other := range l {
			if state.Right(other) || isState(other) {
				t.Errorf("%s: not all is there, or more: %+v", name, other)
			}
		}
	}
}

// P16.1: Like: a state is like itself, and like none in which one thing is another one, whether they may be or not.
func TestLike(t *testing.T) {
	all := slices.Collect(maps.Values(statesThatMayBe()))
	all = append(all, slices.Collect(maps.Values(statesThatMayNotBe()))...)
	for _, a := range all {
		if !state.Like(a, clone(a)) || !state.Like(clone(a), a) {
			t.Errorf("it is not like itself: %+v", a)
		}
		for _, b := range all {
			if state.Like(a, b) != like(a, b) {
				t.Errorf("Like = %v: %+v, %+v", !like(a, b), a, b)
			}
		}
	}
	for _, s := range []api.State{ofAll(), many(3, 3), statesThatMayNotBe()["waits turned"]} {
		besides(s, func(other api.State) {
			if same := like(s, other); state.Like(s, other) != same || state.Like(other, s) != same {
				t.Fatalf("Like = %v: %+v, %+v", !same, s, other)
			}
		})
	}
}

// P16.1: Like asks each field: there is none that may be another one.
func TestLikeOfEachField(t *testing.T) {
	s := ofAll()
	ends, _ := leaves(reflect.ValueOf(&s).Elem())
	for i := range ends {
		other := clone(s)
		l, _ := leaves(reflect.ValueOf(&other).Elem())
		l[i].Set(reflect.ValueOf(others(l[i])[0]).Convert(l[i].Type()))
		if state.Like(s, other) || state.Like(other, s) {
			t.Errorf("it is like one with another %v at %d", l[i], i)
		}
	}
	if len(ends) < 220 {
		t.Errorf("just %d", len(ends))
	}
}

// ofLengths are states that may be, whose texts grow, byte by byte, from below 3000 bytes to above.
func ofLengths() []api.State {
	var l []api.Order
	for id := 1; id < 33; id++ {
		o := come(waiting(id*10, "abcdefghijklmnop", 0, 1<<25, 1<<25), 1<<24)
		o.Cutoff, o.Pay.Until = 1, 1
		l = append(l, o)
	}
	s := of("abcdefghijklmnop", l...)
	all := []api.State{s}
	for i := range l {
		for digits := 1; digits < 6; digits++ {
			for _, field := range []func(o *api.Order) *int{
				func(o *api.Order) *int { return &o.Cutoff },
				func(o *api.Order) *int { return &o.Pay.Until },
			} {
				s = remade(s, func(s *api.State) { *field(&s.Orders[i]) = 1 << (7 * digits) })
				all = append(all, s)
			}
		}
	}
	return all
}

// P16.2: Text, Read: up to 3000 bytes, and no more.
func TestLong(t *testing.T) {
	told := map[int]api.Errno{}
	for _, s := range ofLengths() {
		text := bytesOf(s)
		_, e := written(t, s)
		told[len(text)] = e
		if !state.Right(s) {
			t.Fatalf("of %d bytes: it may be", len(text))
		}
		if _, readE := read(t, text); (readE == api.OK) != (e == api.OK) {
			t.Errorf("%d bytes: Text tells %d, Read %d", len(text), e, readE)
		}
	}
	for n := 2990; n < 3020; n++ {
		want := api.OK
		if n > 3000 {
			want = api.ErrLong
		}
		if e, there := told[n]; !there || e != want {
			t.Errorf("%d bytes: Text tells %d, %v; want %d", n, e, there, want)
		}
	}
}

// P16.2: Text: of 32 orders of the longest kind, whose row alone is longer than a text may be.
func TestLongest(t *testing.T) {
	var l []api.Order
	sku := "abcdefghijklmnop"
	for i := range 32 {
		o := come(waiting(most-31+i, sku, 3, 1<<25, 1<<25), 1<<24)
		o = sending(asking(o, api.AYes, most), sku, 1<<20, 1<<20, most-31+i)
		o.Cutoff, o.Pay.Until = most, most
		l = append(l, o)
	}
	s := of(sku, l...)
	if text, e := state.Text(s); text != "" || e != api.ErrLong || !state.Right(s) || len(rows(l, orderText)) < 4097 {
		t.Errorf("Text is %d bytes, %d; the orders are %d", len(text), e, len(rows(l, orderText)))
	}
	held(t, s)
	s.Now = most
	if _, e := state.Text(s); e != api.ErrArg {
		t.Errorf("Text of what may not be tells %d", e)
	}
}

// P16.2: Read: what is no state's text, by what is odd.
func TestOddTexts(t *testing.T) {
	none, nothing := row(), row(num(0), num(0), num(0))
	cup := row("cup")
	o := waiting(1, "cup", 0, 1, 1)
	numbers := []string{num(1), "cup", num(0), num(1), num(1), num(0), num(1), num(61), num(0), num(1), "", num(0), num(0), num(0), num(1), num(0), num(41), num(1), num(0), num(0), num(0)}
	last := row(num(0), num(0), num(1))
	with := func(at int, text string) string {
		odd := slices.Clone(numbers)
		odd[at] = text
		return row(cup, none, none, row(row(odd...)), none, last)
	}
	if s, e := state.Read(with(1, "cup")); e != api.OK || !like(s, remade(of("cup", o), func(*api.State) {})) {
		t.Fatalf("Read = %+v, %d", s, e)
	}
	odd := map[string]string{
		"of no bytes":               "",
		"a byte":                    "\x00",
		"a row of none":             none,
		"a row of five":             row(none, none, none, none, none),
		"a row of seven":            row(none, none, none, none, none, nothing, none),
		"six of none":               row(none, none, none, none, none, none),
		"six empty texts":           row("", "", "", "", "", ""),
		"two counts":                row(none, none, none, none, none, row(num(0), num(0))),
		"four counts":               row(none, none, none, none, none, row(num(0), num(0), num(0), num(0))),
		"a count of no bytes":       row(none, none, none, none, none, row(num(0), "", num(0))),
		"a count with more":         row(none, none, none, none, none, row(num(0), num(0)+"a", num(0))),
		"a count in two bytes":      row(none, none, none, none, none, row(num(0), "\x80\x00", num(0))),
		"a count of nine bytes":     row(none, none, none, none, none, row(num(0), strings.Repeat("\xff", 9), num(0))),
		"a count below 0":           row(none, none, none, none, none, row(num(-1), num(0), num(0))),
		"a time below 0":            row(none, none, none, none, none, row(num(0), num(-1), num(0))),
		"more behind it":            row(none, none, none, none, none, nothing) + "\x00",
		"goods that may not be":     row(row("Cup"), none, none, none, none, nothing),
		"goods twice":               row(row("cup", "cup"), none, none, none, none, nothing),
		"goods turned":              row(row("mug", "cup"), none, none, none, none, nothing),
		"nine goods":                row(row("a", "b", "c", "d", "e", "f", "g", "h", "i"), none, none, none, none, nothing),
		"goods with more":           row(cup+"\x00", none, none, none, none, nothing),
		"a rule of no row":          row(row("cup", "mug"), row("x"), none, none, none, nothing),
		"a rule of four":            row(row("cup", "mug"), row(row("cup", "mug", num(1), num(1))), none, none, none, nothing),
		"a rule of six":             row(row("cup", "mug"), row(row("cup", "mug", num(1), num(1), num(1), num(1))), none, none, none, nothing),
		"a rule of no number":       row(row("cup", "mug"), row(row("cup", "mug", num(1), num(1), "")), none, none, none, nothing),
		"a rule of itself":          row(row("cup", "mug"), row(row("cup", "cup", num(1), num(1), num(1))), none, none, none, nothing),
		"stock of five":             row(cup, none, row(row("cup", num(0), num(0), num(0), num(0))), none, none, nothing),
		"stock of seven":            row(cup, none, row(row("cup", num(0), num(0), num(0), num(0), num(0), num(0))), none, none, nothing),
		"stock of no goods":         row(cup, none, row(row("mug", num(0), num(0), num(0), num(0), num(0))), none, none, nothing),
		"stock that is held":        row(cup, none, row(row("cup", num(1), num(0), num(1), num(0), num(0))), none, none, nothing),
		"an order of 20":            row(cup, none, none, row(row(numbers[:20]...)), none, last),
		"an order of 22":            row(cup, none, none, row(row(append(slices.Clone(numbers), num(0))...)), none, last),
		"an order of none":          row(cup, none, none, row(none), none, last),
		"an order of one byte":      row(cup, none, none, row("x"), none, last),
		"one that came later":       row(cup, none, none, row(row(numbers...)), none, nothing),
		"an order twice":            row(cup, none, none, row(row(numbers...), row(numbers...)), none, last),
		"a time above its money's":  row(cup, none, none, row(row(numbers...)), none, row(num(0), num(41), num(1))),
		"in parts: 2":               with(8, num(2)),
		"in parts: -1":              with(8, num(-1)),
		"in parts: no bytes":        with(8, ""),
		"in parts: two":             with(8, num(0)+num(0)),
		"ends: 2":                   with(20, num(2)),
		"ends: 1, and waits":        with(20, num(1)),
		"ends: no bytes":            with(20, ""),
		"a load that is not":        with(10, "cup"),
		"a load's name of a number": with(10, num(0)),
		"another phase":             with(9, num(2)),
		"told, a row of three":      row(none, none, none, none, row(row(num(1), num(1), num(1))), row(num(1), num(0), num(0))),
		"told, a row of five":       row(none, none, none, none, row(row(num(1), num(1), num(1), num(1), num(1))), row(num(1), num(0), num(0))),
		"told by no order":          row(none, none, none, none, row(row(num(1), num(1), num(1), num(1))), row(num(1), num(0), num(0))),
		"257 goods":                 row(row(slices.Repeat([]string{"a"}, 257)...), none, none, none, none, nothing),
		"a name of 2900 bytes":      row(row(strings.Repeat("a", 2900)), none, none, none, none, nothing),
		"3001 zeros":                strings.Repeat("\x00", 3001),
		"3000 zeros":                strings.Repeat("\x00", 3000),
		"a million bytes":           strings.Repeat("\xff", 1000000),
	}
	for name, text := range odd {
		if s, e := state.Read(text); e != api.ErrSyntax || !like(s, api.State{}) {
			t.Errorf("%s: Read = %+v, %d", name, s, e)
		}
	}
}

// P1, P16.2 and P16.3: Read of all texts that a byte apart, or a part gone, makes of a state's: another state, or none.
func TestTextsBeside(t *testing.T) {
	for name, s := range statesThatMayBe() {
		text := bytesOf(s)
		if len(text) > 450 {
			continue
		}
		for i := range text {
			read(t, text[:i])
			read(t, text[i:])
			read(t, text[:i]+text[i+1:])
			for _, b := range []byte{0, 1, 2, 127, 128, 255, text[i] - 2, text[i] - 1, text[i] + 1, text[i] + 2, text[i] ^ 128} {
				read(t, text[:i]+string([]byte{b})+text[i+1:])
				if _, e := read(t, text[:i]+string([]byte{b})+text[i:]); e == api.OK {
					t.Errorf("%s: a byte more, at %d, is read", name, i)
				}
			}
		}
	}
}

// P16.3: what is written is read, with its indexes.
func TestWrittenIsRead(t *testing.T) {
	all := slices.Collect(maps.Values(statesThatMayBe()))
	for seed := range uint32(300) {
		all = append(all, many(seed+50, int(seed%33)))
	}
	long := 0
	for _, s := range all {
		if !state.Right(s) {
			t.Fatalf("it may be: %+v", s)
		}
		text, e := written(t, s)
		if e == api.ErrLong {
			long++
			continue
		}
		got, e := read(t, text)
		if e != api.OK || !state.Like(got, s) || !like(got, s) {
			t.Fatalf("%+v is read as %+v, %d", s, got, e)
		}
		if again, e := written(t, got); again != text || e != api.OK {
			t.Fatalf("%q, read and written, is %q, %d", text, again, e)
		}
	}
	if long > len(all)/2 {
		t.Errorf("%d of %d are too long", long, len(all))
	}
}

// P16.3: unlike states have unlike texts.
func TestUnlikeStatesHaveUnlikeTexts(t *testing.T) {
	all := map[string]api.State{}
	for _, s := range []api.State{{}, ofAll(), over(), many(3, 3)} {
		besides(s, func(other api.State) {
			other = remade(other, func(*api.State) {})
			text, e := state.Text(other)
			if e != api.OK {
				return
			}
			if twin, there := all[text]; there && !like(twin, other) {
				t.Fatalf("%+v and %+v have the same text", twin, other)
			}
			all[text] = other
		})
	}
	if len(all) < 200 {
		t.Errorf("just %d of them", len(all))
	}
}

// R3: no list is an empty one.
func TestNoListIsAnEmptyOne(t *testing.T) {
	for name, s := range statesThatMayBe() {
		lists := func(s *api.State) []reflect.Value { _, l := leaves(reflect.ValueOf(s).Elem()); return l }
		none, empty := clone(s), clone(s)
		for i, l := range lists(&empty) {
			if l.Len() == 0 {
				l.Set(reflect.MakeSlice(l.Type(), 0, 3))
				lists(&none)[i].SetZero()
			}
		}
		held(t, none)
		held(t, empty)
		if !state.Like(none, empty) || !state.Like(empty, none) || !state.Right(none) || !state.Right(empty) {
			t.Errorf("%s: no list is not an empty one", name)
		}
	}
}

// R4, and the language's rule of new memory: no list that is handed in is changed, not even behind its end, and none that is answered is a part of it, or of another one that is answered.
func TestListsStay(t *testing.T) {
	for name, s := range statesThatMayBe() {
		lists := func(s *api.State) []reflect.Value { _, l := leaves(reflect.ValueOf(s).Elem()); return l }
		handed, want := clone(s), clone(s)
		for i, l := range lists(&handed) {
			longer := reflect.MakeSlice(l.Type(), l.Len()+3, l.Len()+3)
			reflect.Copy(longer, l)
			l.Set(longer.Slice(0, l.Len()))
			longer = reflect.MakeSlice(l.Type(), l.Len()+3, l.Len()+3)
			reflect.Copy(longer, l)
			lists(&want)[i].Set(longer)
		}
		state.Right(handed)
		waits, _ := state.Waits(handed.Orders)
		timers, _ := state.Timers(handed.Orders)
		for _, o := range handed.Orders {
			state.Told(o)
		}
		state.Like(handed, handed)
		text, e := state.Text(handed)
		first, _ := state.Read(text)
		second, _ := state.Read(text)
		scribble(waits, api.Line{Sku: "scribbled"})
		scribble(timers, api.Timer{At: -8})
		scribbleAll(&first)
		if e == api.OK && !like(second, s) {
			t.Fatalf("%s: two that are read share", name)
		}
		for i, l := range lists(&handed) {
			if whole := l.Slice(0, l.Len()+3).Interface(); !reflect.DeepEqual(whole, lists(&want)[i].Interface()) {
				t.Fatalf("%s is changed: %v", name, whole)
			}
		}
	}
}

func scribble[T any](l []T, with T) {
	l = l[:cap(l)]
	for i := range l {
		l[i] = with
	}
}

// scribbleAll has nothing be left in a state's lists.
func scribbleAll(s *api.State) {
	_, lists := leaves(reflect.ValueOf(s).Elem())
	for _, l := range lists {
		for i := range l.Len() {
			l.Index(i).SetZero()
		}
	}
}

// The language's rule of new memory: no two lists of a state that is read share.
func TestListsOfOneStateShareNothing(t *testing.T) {
	for name, s := range statesThatMayBe() {
		text, e := state.Text(s)
		if e != api.OK {
			continue
		}
		_, lists := leaves(reflect.ValueOf(s))
		for i := range lists {
			got, _ := state.Read(text)
			_, l := leaves(reflect.ValueOf(&got).Elem())
			for k := range l[i].Len() {
				l[i].Index(k).SetZero()
			}
			for k := range l {
				if k != i && l[k].Len() > 0 && !reflect.DeepEqual(l[k].Interface(), lists[k].Interface()) {
					t.Fatalf("%s: lists %d and %d share", name, i, k)
				}
			}
		}
	}
}

// R5: a name's bytes that no rule names are bytes as any other: they are read, and refused as names.
func TestBytesOfNames(t *testing.T) {
	for b := range 256 {
		name := string([]byte{'a', byte(b)})
		s := api.State{Goods: api.Goods{Skus: []string{name}}}
		held(t, s)
		_, e := state.Read(bytesOf(s))
		if isName := 'a' <= b && b <= 'z' || '0' <= b && b <= '9'; (e == api.OK) != isName {
			t.Errorf("byte %d in a name: Read tells %d", b, e)
		}
	}
}

// Errors are those numbers.
func TestErrorsNumbers(t *testing.T) {
	if _, e := state.Waits([]api.Order{{}}); e != 1 {
		t.Errorf("Waits tells %d; want 1", e)
	}
	if _, e := state.Timers([]api.Order{{}}); e != 1 {
		t.Errorf("Timers tells %d; want 1", e)
	}
	if _, e := state.Text(api.State{Now: -1}); e != 1 {
		t.Errorf("Text tells %d; want 1", e)
	}
	lengths := ofLengths()
	if _, e := state.Text(lengths[len(lengths)-1]); e != 3 {
		t.Errorf("Text of too many bytes tells %d; want 3", e)
	}
	if _, e := state.Read(""); e != 5 {
		t.Errorf("Read tells %d; want 5", e)
	}
}

// P1: lists beyond all bounds.
func TestBeyondBounds(t *testing.T) {
	const n = 100000
	for name, s := range map[string]api.State{
		"goods":  {Goods: api.Goods{Skus: make([]string, n)}},
		"rules":  {Goods: api.Goods{Subs: make([]api.Sub, n)}},
		"stock":  {Stock: make([]api.Row, n)},
		"orders": {Orders: make([]api.Order, n)},
		"waits":  {Waits: make([]api.Line, n)},
		"timers": {Timers: make([]api.Timer, n)},
		"told":   {Out: api.Outbox{Rows: make([]api.Out, n)}},
	} {
		if state.Right(s) || !state.Like(s, s) || state.Like(s, api.State{}) {
			t.Errorf("%s: Right, or not like itself", name)
		}
		if text, e := state.Text(s); text != "" || e != api.ErrArg {
			t.Errorf("%s: Text tells %d", name, e)
		}
	}
}

// R1: calls that run side by side, or one behind the other, know nothing of each other.
func TestNothingIsKept(t *testing.T) {
	var all sync.WaitGroup
	for i := range 16 {
		all.Go(func() {
			s := many(uint32(i), 2*i)
			text, e := textAnswer(s)
			waits, _ := waitsAnswer(s.Orders)
			timers, _ := timersAnswer(s.Orders)
			for range 20 {
				got, gotE := state.Text(s)
				w, _ := state.Waits(s.Orders)
				tm, _ := state.Timers(s.Orders)
				back, backE := state.Read(text)
				if got != text || gotE != e || !slices.Equal(w, waits) || !slices.Equal(tm, timers) || e == api.OK && (backE != api.OK || !like(back, s)) {
					t.Error("a call answers something else")
					return
				}
			}
		})
	}
	all.Wait()
}
