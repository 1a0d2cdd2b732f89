package timer_test

import (
	"math"
	"slices"
	"sync"
	"testing"

	"tarry/api"
	"tarry/timer"
)

// The chapter's example.
func TestExample(t *testing.T) {
	var l []api.Timer
	for _, x := range []api.Timer{at(7, 1, 1), at(5, 2, 1), at(3, 1, 2)} {
		var e api.Errno
		if l, e = timer.Set(l, x); e != api.OK {
			t.Fatal(x, e)
		}
	}
	got, rest, e := timer.Due(l, 5)
	if e != api.OK || !slices.Equal(got, []api.Timer{at(3, 1, 2), at(5, 2, 1)}) || !slices.Equal(rest, []api.Timer{at(7, 1, 1)}) {
		t.Errorf("Due 5 = %v, %v, %d", got, rest, e)
	}
}

// P10.1 and P10.2: all calls, written out.
func TestCalls(t *testing.T) {
	cutoff, pay, consent, other := at(9, api.KCutoff, 1), at(4, api.KPay, 1), at(4, api.KConsent, 1), at(4, api.KPay, 2)
	later := at(6, api.KPay, 1)
	var l []api.Timer
	for _, c := range []struct {
		name string
		do   func(l []api.Timer) ([]api.Timer, api.Errno)
		want []api.Timer
		next int
	}{
		{"Set cutoff", func(l []api.Timer) ([]api.Timer, api.Errno) { return timer.Set(l, cutoff) }, []api.Timer{cutoff}, 9},
		{"Set consent", func(l []api.Timer) ([]api.Timer, api.Errno) { return timer.Set(l, consent) }, []api.Timer{consent, cutoff}, 4},
		{"Set other", func(l []api.Timer) ([]api.Timer, api.Errno) { return timer.Set(l, other) }, []api.Timer{other, consent, cutoff}, 4},
		{"Set pay", func(l []api.Timer) ([]api.Timer, api.Errno) { return timer.Set(l, pay) }, []api.Timer{pay, other, consent, cutoff}, 4},
		{"Set pay again", func(l []api.Timer) ([]api.Timer, api.Errno) { return timer.Set(l, pay) }, []api.Timer{pay, other, consent, cutoff}, 4},
		{"Set it later", func(l []api.Timer) ([]api.Timer, api.Errno) { return timer.Set(l, later) }, []api.Timer{other, consent, later, cutoff}, 4},
		{"Clear other", func(l []api.Timer) ([]api.Timer, api.Errno) { return timer.Clear(l, api.KPay, 2) }, []api.Timer{consent, later, cutoff}, 4},
		{"Clear it again", func(l []api.Timer) ([]api.Timer, api.Errno) { return timer.Clear(l, api.KPay, 2) }, []api.Timer{consent, later, cutoff}, 4},
		{"Clear consent", func(l []api.Timer) ([]api.Timer, api.Errno) { return timer.Clear(l, api.KConsent, 1) }, []api.Timer{later, cutoff}, 6},
		{"Clear none", func(l []api.Timer) ([]api.Timer, api.Errno) { return timer.Clear(l, 0, -5) }, []api.Timer{later, cutoff}, 6},
	} {
		got, e := c.do(l)
		if e != api.OK || !slices.Equal(got, c.want) || !timer.Right(got) {
			t.Fatalf("%s: %v, %d; want %v", c.name, got, e, c.want)
		}
		if n, e := timer.Next(got); n != c.next || e != api.OK {
			t.Errorf("%s: Next = %d, %d; want %d", c.name, n, e, c.next)
		}
		l = got
	}
	for now, n := range map[int]int{math.MinInt: 0, -1: 0, 0: 0, 5: 0, 6: 1, 7: 1, 8: 1, 9: 2, 10: 2, most + 1: 2, math.MaxInt: 2} {
		got, rest, e := timer.Due(l, now)
		if e != api.OK || !slices.Equal(got, l[:n]) || !slices.Equal(rest, l[n:]) {
			t.Errorf("Due %d = %v, %v, %d", now, got, rest, e)
		}
	}
	if n, e := timer.Next(nil); n != 0 || e != api.ErrNone {
		t.Errorf("Next of none = %d, %d", n, e)
	}
}

// P10.1: Right: timers that may be, in order and not.
func TestRight(t *testing.T) {
	for name, l := range timersThatMayBe() {
		if timer.Right(l) != isRow(l) {
			t.Errorf("%s: Right = %v", name, timer.Right(l))
		}
	}
	for name, l := range inRows() {
		if !timer.Right(l) {
			t.Errorf("%s: they may be: %v", name, l)
		}
	}
}

// P10.1: Right, of two timers: by At, then by Kind, then by Order.
func TestRightOfTwo(t *testing.T) {
	for _, c := range []struct {
		a, b api.Timer
	}{
		{at(1, 3, 9), at(2, 1, 1)},
		{at(0, 3, most), at(1, 1, 1)},
		{at(9, 3, 9), at(10, 1, 1)},
		{at(most-1, 3, most), at(most, 1, 1)},
		{at(5, 1, 9), at(5, 2, 1)},
		{at(5, 2, most), at(5, 3, 1)},
		{at(5, 1, 9), at(5, 3, 9)},
		{at(5, 2, 9), at(5, 2, 10)},
		{at(5, 3, most-1), at(5, 3, most)},
		{at(5, 1, 1), at(6, 2, 1)},
	} {
		if !timer.Right([]api.Timer{c.a, c.b}) || timer.Right([]api.Timer{c.b, c.a}) {
			t.Errorf("%v stands below %v", c.a, c.b)
		}
		for _, l := range [][]api.Timer{{c.a, c.b}, {c.b, c.a}} {
			one, _ := timer.Set(nil, l[0])
			if got, e := timer.Set(one, l[1]); e != api.OK || !slices.Equal(got, []api.Timer{c.a, c.b}) {
				t.Errorf("%v, set so, are %v, %d", l, got, e)
			}
		}
	}
}

// P10.1: Right, of timers two of which, side by side or far apart, are turned about, or one of which is there twice.
func TestRightAtEachPlace(t *testing.T) {
	for name, l := range inRows() {
		for i := range l {
			for k := range i {
				other := slices.Clone(l)
				other[i], other[k] = other[k], other[i]
				if timer.Right(other) {
					t.Fatalf("%s, with %d and %d turned about, may not be", name, i, k)
				}
				other = slices.Clone(l)
				other[i].Kind, other[i].Order = l[k].Kind, l[k].Order
				if timer.Right(other) {
					t.Fatalf("%s, with %d of the kind and order of %d, may not be", name, i, k)
				}
			}
		}
	}
}

// P10.1 and P10.2: all calls refuse timers that may not be, whatever else is amiss.
func TestTimersThatMayNotBe(t *testing.T) {
	for name, l := range rowsThatMayNotBe() {
		if areTimers(l) {
			t.Fatalf("%s may be", name)
		}
		isRefused(t, name, l)
	}
	for name, l := range timersThatMayBe() {
		if !isRow(l) {
			isRefused(t, name, l)
		}
	}
}

// isRefused holds that calls tell ErrArg, and nothing beside it, of timers that are there and that are not.
func isRefused(t *testing.T, name string, l []api.Timer) {
	t.Helper()
	if timer.Right(l) {
		t.Errorf("%s: Right", name)
	}
	if got, e := timer.Next(l); got != 0 || e != api.ErrArg {
		t.Errorf("%s: Next = %d, %d", name, got, e)
	}
	for _, x := range []api.Timer{at(5, 1, 7000), at(-1, 9, 0), l[0], l[len(l)-1]} {
		if got, e := timer.Set(l, x); len(got) > 0 || e != api.ErrArg {
			t.Errorf("%s: Set of %v = %v, %d", name, x, got, e)
		}
		if got, e := timer.Clear(l, x.Kind, x.Order); len(got) > 0 || e != api.ErrArg {
			t.Errorf("%s: Clear of %v = %v, %d", name, x, got, e)
		}
		if got, rest, e := timer.Due(l, x.At); len(got) > 0 || len(rest) > 0 || e != api.ErrArg {
			t.Errorf("%s: Due %d = %v, %v, %d", name, x.At, got, rest, e)
		}
	}
}

// P10.1: Set: a timer that may not be is refused by timers of every number, also ahead of there being 96.
func TestSetOfWhatMayNotBe(t *testing.T) {
	for name, l := range inRows() {
		for _, x := range timersThatMayNotBe() {
			if got, e := timer.Set(l, x); len(got) > 0 || e != api.ErrArg {
				t.Errorf("%s: Set of %v = %v, %d", name, x, got, e)
			}
			each(t, l, x)
		}
	}
}

// P10.1: Set and Clear: the edges of a timer's numbers, alone and among others.
func TestNumbers(t *testing.T) {
	edges := []int{math.MinInt, -most, -1, 0, 1, 2, most - 1, most, most + 1, 1 << 41, math.MaxInt}
	for _, kind := range []int{math.MinInt, -1, 0, 1, 2, 3, 4, math.MaxInt} {
		for _, when := range edges {
			for _, order := range edges {
				x := at(when, kind, order)
				if timer.Right([]api.Timer{x}) != isTimer(x) {
					t.Errorf("Right of %v = %v", x, !isTimer(x))
				}
				each(t, nil, x)
				each(t, []api.Timer{x}, x)
				each(t, []api.Timer{at(0, 1, 77), x, at(most, 3, 78)}, x)
				each(t, []api.Timer{at(0, 1, 77), at(most, 3, 78)}, x)
			}
		}
	}
}

// P10.1: Set: a timer at each time comes into its place, be it new or there at another time.
func TestSetAtEachTime(t *testing.T) {
	for _, l := range inRows() {
		for _, when := range []int{0, 1, 2, 5, 7, 25, 49, 50, 999, 1000, most - 1, most} {
			for kind := 1; kind <= 3; kind++ {
				for _, order := range []int{1, 16, 33, most} {
					set(t, l, at(when, kind, order))
				}
			}
		}
		for _, x := range l {
			for _, when := range []int{x.At - 1, x.At, x.At + 1, 0, 24, most} {
				set(t, l, at(when, x.Kind, x.Order))
			}
		}
	}
}

// P10.1: Set: to 96 no more come, but one that is there is set at another time.
func TestFull(t *testing.T) {
	for _, l := range [][]api.Timer{full(), inOrder(timersOfOneKind(96)), atOneTime(96)} {
		l = inOrder(l)
		for kind := 1; kind <= 3; kind++ {
			if got, e := timer.Set(l, at(3, kind, 5000)); len(got) > 0 || e != api.ErrFull {
				t.Errorf("Set of one more = %d timers, %d", len(got), e)
			}
		}
		for i, x := range l {
			x.At = 60
			if got, e := set(t, l, x); e != api.OK || len(got) != 96 || !slices.Contains(got, x) {
				t.Errorf("Set of %d again = %d timers, %d", i, len(got), e)
			}
			one, _ := cleared(t, l, x.Kind, x.Order)
			if got, e := set(t, one, at(3, 1, 5000)); e != api.OK || len(got) != 96 {
				t.Errorf("Set of another one instead of %d = %d timers, %d", i, len(got), e)
			}
		}
	}
}

// P10.1: Clear: each is taken out alone; one that is not there, or that may not be, leaves all as they are.
func TestClear(t *testing.T) {
	for name, l := range inRows() {
		for i, x := range l {
			got, e := cleared(t, l, x.Kind, x.Order)
			if e != api.OK || !slices.Equal(got, slices.Concat(l[:i], l[i+1:])) {
				t.Errorf("%s: Clear of %d = %v, %d", name, i, got, e)
			}
		}
		for _, x := range append(timersThatMayNotBe(), at(1, 1, 7000), at(1, 2, 7000), at(1, 3, 7000)) {
			if got, e := cleared(t, l, x.Kind, x.Order); e != api.OK || !slices.Equal(got, l) {
				t.Errorf("%s: Clear of %v = %v, %d", name, x, got, e)
			}
		}
	}
}

// P10.2: Due and Next: at each time at which one is due, and beside it, and at all edges.
func TestDue(t *testing.T) {
	for name, l := range inRows() {
		times := []int{math.MinInt, -1, 0, 1, most - 1, most, most + 1, math.MaxInt}
		for _, x := range l {
			times = append(times, x.At-1, x.At, x.At+1)
		}
		for _, now := range times {
			got, rest, e := due(t, l, now)
			if e != api.OK || !slices.Equal(slices.Concat(got, rest), l) {
				t.Errorf("%s: Due %d = %v, %v, %d", name, now, got, rest, e)
			}
			if n, e := next(t, rest); e == api.OK && n <= now {
				t.Errorf("%s: what is not Due %d is due at %d", name, now, n)
			}
		}
	}
}

// P10.2: Next is the first one's, and ErrNone just if there is none.
func TestNext(t *testing.T) {
	for name, l := range inRows() {
		for i := range l {
			if n, e := next(t, l[i:]); n != l[i].At || e != api.OK {
				t.Errorf("%s, from %d on: Next = %d, %d", name, i, n, e)
			}
		}
		if n, e := timer.Next(l[len(l):]); n != 0 || e != api.ErrNone {
			t.Errorf("%s, none of it: Next = %d, %d", name, n, e)
		}
	}
}

// P10.1 and P10.2: all calls, of all rows of few timers, with some that may not be among them.
func TestAllRowsOfFew(t *testing.T) {
	few := []api.Timer{at(1, 1, 1), at(1, 2, 1), at(2, 1, 1), at(2, 1, 2), at(2, 3, 1), at(3, 1, 2), at(3, 4, 2)}
	right := 0
	for _, l := range rows(few, 5) {
		if isRow(l) {
			right++
		}
		for _, x := range few {
			each(t, l, x)
		}
	}
	if right < 20 {
		t.Errorf("just %d of them may be", right)
	}
}

// P10.3: in whatever order timers are set, one of each kind and order, they stand in one.
func TestInWhateverOrder(t *testing.T) {
	few := []api.Timer{at(7, 1, 1), at(5, 2, 1), at(5, 3, 1), at(5, 2, 2), at(0, 1, 2), at(most, 3, 2)}
	for _, l := range orders(few) {
		comesTo(t, l, inOrder(few))
	}
	for _, seed := range []uint32{0, 1, 2, 3, 4, 5} {
		l := many(seed, 96)
		for again := range uint32(4) {
			comesTo(t, shuffled(seed*4+again, l), inOrder(l))
		}
	}
}

// comesTo holds that timers, set one by one, come to those.
func comesTo(t *testing.T, l, want []api.Timer) {
	t.Helper()
	var got []api.Timer
	for _, x := range l {
		var e api.Errno
		if got, e = timer.Set(got, x); e != api.OK || !timer.Right(got) {
			t.Fatalf("Set of %v tells %d", x, e)
		}
	}
	if !slices.Equal(got, want) {
		t.Fatalf("%v, one by one, come to %v; want %v", l, got, want)
	}
}

// P10.3: set twice, the last one stands, whatever was set between.
func TestSetTwice(t *testing.T) {
	for _, l := range inRows() {
		for i, x := range l {
			for _, when := range []int{0, 25} {
				other := at(when, x.Kind, x.Order)
				once, _ := set(t, l, other)
				between, _ := set(t, once, l[(i+1)%len(l)])
				again, e := set(t, between, x)
				want, _ := set(t, l, l[(i+1)%len(l)])
				if e != api.OK || !slices.Equal(again, want) {
					t.Fatalf("%v, set at %d and again: %v, %d; want %v", x, when, again, e, want)
				}
			}
		}
	}
}

// P10.3: what may be stays such; all calls in turns, with full rows and none between.
func TestInTurns(t *testing.T) {
	all, there, told, none := many(20, 120), []api.Timer(nil), map[api.Errno]int{}, 0
	for i := range 4000 {
		x := all[(11*i+i/7)%120]
		x.At = (x.At + i/3) % 100
		var got []api.Timer
		var e api.Errno
		switch {
		case i%900 == 899:
			_, got, e = due(t, there, x.At)
		case i%900 < 500:
			got, e = set(t, there, x)
		default:
			got, e = cleared(t, there, x.Kind, x.Order)
		}
		told[e]++
		if e == api.OK {
			there = got
		}
		next(t, there)
		if len(there) == 0 {
			none++
		}
	}
	if told[api.OK] < 20 || told[api.ErrFull] < 20 || none < 20 {
		t.Errorf("told: %v; and there is none %d times", told, none)
	}
}

// R3: no list is an empty one.
func TestNoListIsAnEmptyOne(t *testing.T) {
	for _, l := range [][]api.Timer{nil, {}, make([]api.Timer, 0, 5)} {
		if !timer.Right(l) {
			t.Error("none may be")
		}
		for _, x := range []api.Timer{at(0, 1, 1), at(-1, 1, 1), at(0, 0, 0)} {
			each(t, l, x)
		}
	}
}

// R4, and the language's rule of new memory: no list that is handed in is changed, not even behind its end, and none that is answered is a part of it, or of another one that is answered.
func TestListsStay(t *testing.T) {
	spoiled, scribbled := at(-7, 7, -7), at(-8, 8, -8)
	calls := map[string]func(l []api.Timer, x api.Timer) [][]api.Timer{
		"Right": func(l []api.Timer, _ api.Timer) [][]api.Timer { timer.Right(l); return nil },
		"Set":   func(l []api.Timer, x api.Timer) [][]api.Timer { got, _ := timer.Set(l, x); return [][]api.Timer{got} },
		"Set, later": func(l []api.Timer, x api.Timer) [][]api.Timer {
			x.At += 5
			got, _ := timer.Set(l, x)
			return [][]api.Timer{got}
		},
		"Set of other": func(l []api.Timer, x api.Timer) [][]api.Timer {
			x.Order = 5000
			got, _ := timer.Set(l, x)
			return [][]api.Timer{got}
		},
		"Clear": func(l []api.Timer, x api.Timer) [][]api.Timer {
			got, _ := timer.Clear(l, x.Kind, x.Order)
			return [][]api.Timer{got}
		},
		"Due": func(l []api.Timer, x api.Timer) [][]api.Timer {
			got, rest, _ := timer.Due(l, x.At)
			return [][]api.Timer{got, rest}
		},
		"Next": func(l []api.Timer, _ api.Timer) [][]api.Timer { timer.Next(l); return nil },
	}
	for call, do := range calls {
		for name, l := range timersThatMayBe() {
			for _, x := range append(slices.Clone(l), spoiled, at(most, 3, most)) {
				tail := append(slices.Clone(l), spoiled, spoiled, spoiled)
				handed := slices.Clone(tail)
				answers := do(handed[:len(l)], x)
				want := make([][]api.Timer, len(answers))
				for i, answer := range answers {
					want[i] = slices.Clone(answer)
				}
				for i, answer := range answers {
					if !slices.Equal(answer, want[i]) {
						t.Fatalf("%s, of %v and %s: two answers share", call, x, name)
					}
					for k := range answer[:cap(answer)] {
						answer[:cap(answer)][k] = scribbled
					}
				}
				if !slices.Equal(handed, tail) {
					t.Fatalf("%s, of %v, changes %s", call, x, name)
				}
			}
		}
	}
}

// R1: calls that run side by side, or one behind the other, know nothing of each other.
func TestNothingIsKept(t *testing.T) {
	l := inOrder(many(21, 90))
	var all sync.WaitGroup
	for i := range 16 {
		all.Go(func() {
			x := l[i]
			x.At = 40 - i
			set, _ := setAnswer(l, x)
			cleared, _ := clearAnswer(l, x.Kind, x.Order)
			due, rest, _ := dueAnswer(l, x.At)
			for range 40 {
				a, _ := timer.Set(l, x)
				b, _ := timer.Clear(l, x.Kind, x.Order)
				c, d, _ := timer.Due(l, x.At)
				n, _ := timer.Next(l[i:])
				if !slices.Equal(a, set) || !slices.Equal(b, cleared) || !slices.Equal(c, due) || !slices.Equal(d, rest) || n != l[i].At {
					t.Error("a call answers something else")
					return
				}
			}
		})
	}
	all.Wait()
}
