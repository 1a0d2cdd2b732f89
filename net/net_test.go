package net_test

import (
	"math"
	"slices"
	"sync"
	"testing"

	"tarry/api"
	"tarry/net"
)

// The chapter's example.
func TestExample(t *testing.T) {
	a, b := told(0, 1, api.OShip, 7), told(0, 2, api.OAsk, 8)
	n, no, e := net.Post(api.Net{}, a)
	if no != 1 || e != api.OK {
		t.Fatal(no, e)
	}
	n, no, e = net.Post(n, b)
	if no != 2 || e != api.OK {
		t.Fatal(no, e)
	}
	n, e = net.Last(n, 0)
	if e != api.OK {
		t.Fatal(e)
	}
	if _, got, e := net.Take(n, 0); got != told(2, 2, api.OAsk, 8) || e != api.OK {
		t.Errorf("Take of 0 = %v, %d; want b", got, e)
	}
}

// P15.1 and P15.2: all calls, written out, each behind the one ahead.
func TestCalls(t *testing.T) {
	a, b, c := told(1, 10, 1, 7), answer(2, 10, 1, 7, false), answer(3, 11, 3, 7, true)
	d := told(4, 12, 2, 9)
	var n api.Net
	for _, x := range []struct {
		name string
		do   func(n api.Net) (api.Net, any, api.Errno)
		want api.Net
		got  any
	}{
		{"Post of what is told", posts(told(0, 10, 1, 7)), api.Net{Last: 1, Flight: []api.Parcel{a}}, 1},
		{"Post of an answer", posts(answer(77, 10, 1, 7, false)), api.Net{Last: 2, Flight: []api.Parcel{a, b}}, 2},
		{"Post of a yes", posts(answer(-5, 11, 3, 7, true)), api.Net{Last: 3, Flight: []api.Parcel{a, b, c}}, 3},
		{"Last of the first one", puts(net.Last, 0), api.Net{Last: 3, Flight: []api.Parcel{b, c, a}}, nil},
		{"Last of the one between", puts(net.Last, 1), api.Net{Last: 3, Flight: []api.Parcel{b, a, c}}, nil},
		{"Last of the last one", puts(net.Last, 2), api.Net{Last: 3, Flight: []api.Parcel{b, a, c}}, nil},
		{"Twice the first one", puts(net.Twice, 0), api.Net{Last: 3, Flight: []api.Parcel{b, a, c, b}}, nil},
		{"Twice the one between", puts(net.Twice, 2), api.Net{Last: 3, Flight: []api.Parcel{b, a, c, b, c}}, nil},
		{"Twice the last one", puts(net.Twice, 4), api.Net{Last: 3, Flight: []api.Parcel{b, a, c, b, c, c}}, nil},
		{"Take the one between", takes(2), api.Net{Last: 3, Flight: []api.Parcel{b, a, b, c, c}}, c},
		{"Take the last one", takes(4), api.Net{Last: 3, Flight: []api.Parcel{b, a, b, c}}, c},
		{"Take the first one", takes(0), api.Net{Last: 3, Flight: []api.Parcel{a, b, c}}, b},
		{"Post of one more", posts(told(1, 12, 2, 9)), api.Net{Last: 4, Flight: []api.Parcel{a, b, c, d}}, 4},
		{"Take one", takes(1), api.Net{Last: 4, Flight: []api.Parcel{a, c, d}}, b},
		{"Take another one", takes(1), api.Net{Last: 4, Flight: []api.Parcel{a, d}}, c},
		{"Take one of two", takes(1), api.Net{Last: 4, Flight: []api.Parcel{a}}, d},
		{"Last of one alone", puts(net.Last, 0), api.Net{Last: 4, Flight: []api.Parcel{a}}, nil},
		{"Take the one left", takes(0), api.Net{Last: 4}, a},
		{"Post of it again", posts(a), api.Net{Last: 5, Flight: []api.Parcel{told(5, 10, 1, 7)}}, 5},
	} {
		after, got, e := x.do(n)
		if e != api.OK || got != x.got || !same(after, x.want) || !net.Right(after) {
			t.Fatalf("%s: %v, %v, %d; want %v, %v", x.name, after, got, e, x.want, x.got)
		}
		n = after
	}
}

func posts(p api.Parcel) func(api.Net) (api.Net, any, api.Errno) {
	return func(n api.Net) (api.Net, any, api.Errno) {
		after, no, e := net.Post(n, p)
		return after, no, e
	}
}

func takes(place int) func(api.Net) (api.Net, any, api.Errno) {
	return func(n api.Net) (api.Net, any, api.Errno) {
		after, p, e := net.Take(n, place)
		return after, p, e
	}
}

func puts(call func(api.Net, int) (api.Net, api.Errno), place int) func(api.Net) (api.Net, any, api.Errno) {
	return func(n api.Net) (api.Net, any, api.Errno) {
		after, e := call(n, place)
		return after, nil, e
	}
}

// Errors are those numbers.
func TestErrorsNumbers(t *testing.T) {
	p, full := told(1, 1, 1, 1), flying(inOrder(64)...)
	for _, c := range []struct {
		name string
		n    api.Net
		p    api.Parcel
		want api.Errno
	}{
		{"a kind of 4", api.Net{}, told(1, 1, 4, 1), 1},
		{"Last of -1", api.Net{Last: -1}, p, 1},
		{"64 are in flight", full, p, 7},
		{"all numbers are given", api.Net{Last: most}, p, 7},
	} {
		if _, _, e := net.Post(c.n, c.p); e != c.want {
			t.Errorf("%s: Post tells %d; want %d", c.name, e, c.want)
		}
	}
	if _, _, e := net.Take(api.Net{Last: -1}, 0); e != 1 {
		t.Errorf("Take of a net that may not be tells %d; want 1", e)
	}
	if _, _, e := net.Take(flying(p), 1); e != 8 {
		t.Errorf("Take of what is not there tells %d; want 8", e)
	}
	if _, e := net.Twice(flying(p), 1); e != 8 {
		t.Errorf("Twice what is not there tells %d; want 8", e)
	}
	if _, e := net.Twice(full, 0); e != 7 {
		t.Errorf("Twice of 64 tells %d; want 7", e)
	}
	if _, e := net.Last(flying(p), -1); e != 8 {
		t.Errorf("Last of what is not there tells %d; want 8", e)
	}
}

// P15.1: Right: what may be, and what may not.
func TestRight(t *testing.T) {
	for name, n := range netsThatMayBe() {
		if !isNet(n) || !net.Right(n) {
			t.Errorf("%s may be: %v", name, n)
		}
	}
	for name, n := range netsThatMayNotBe() {
		if isNet(n) || net.Right(n) {
			t.Errorf("%s may not be: %v", name, n)
		}
	}
}

// P15.1: Right: of each kind, there and back, yes and no, written out.
func TestRightOfYes(t *testing.T) {
	for _, c := range []struct {
		kind      int
		back, yes bool
		want      bool
	}{
		{0, false, false, false}, {0, true, false, false}, {0, false, true, false}, {0, true, true, false},
		{1, false, false, true}, {1, true, false, true}, {1, false, true, false}, {1, true, true, false},
		{2, false, false, true}, {2, true, false, true}, {2, false, true, false}, {2, true, true, false},
		{3, false, false, true}, {3, true, false, true}, {3, false, true, false}, {3, true, true, true},
		{4, false, false, false}, {4, true, false, false}, {4, false, true, false}, {4, true, true, false},
	} {
		p := api.Parcel{No: 1, Back: c.back, Key: 1, Kind: c.kind, Order: 1, Yes: c.yes}
		if net.Right(flying(p)) != c.want {
			t.Errorf("Right of %v = %v", p, !c.want)
		}
		if _, _, e := net.Post(api.Net{}, p); (e == api.OK) != c.want || (e == api.ErrArg) == c.want {
			t.Errorf("Post of %v tells %d", p, e)
		}
	}
}

// P15.1: Right, of a parcel alone and among others, of which one thing is another one.
func TestRightOfNumbers(t *testing.T) {
	right := 0
	for _, p := range []api.Parcel{told(1, 1, 1, 1), answer(most, most, 3, most, true), answer(50, 50, 2, 50, false)} {
		for _, p := range besides(p) {
			for _, n := range []api.Net{
				{Last: most, Flight: []api.Parcel{p}},
				{Last: p.No, Flight: []api.Parcel{told(1, 2, 2, 77), p}},
				{Last: 64, Flight: []api.Parcel{p, told(64, 2, 2, 77)}},
				{Last: 50, Flight: []api.Parcel{told(2, 2, 2, 77), p, answer(1, 3, 3, 77, false)}},
			} {
				if net.Right(n) != isNet(n) {
					t.Errorf("Right(%v) = %v", n, net.Right(n))
				}
				if isNet(n) {
					right++
				}
			}
		}
	}
	if right < 200 {
		t.Errorf("just %d of them may be", right)
	}
}

// P15.1: Right, of a net of which one parcel, at each place, is none that may be, or of a number that none may have.
func TestRightAtEachPlace(t *testing.T) {
	for name, n := range netsThatMayBe() {
		for i := range n.Flight {
			for _, p := range append(parcelsThatMayNotBe(), told(0, 1, 1, 1), told(-1, 1, 1, 1), told(n.Last+1, 1, 1, 1)) {
				l := slices.Clone(n.Flight)
				l[i] = p
				if net.Right(api.Net{Flight: l, Last: n.Last}) {
					t.Fatalf("%s, with %v at %d, may not be", name, p, i)
				}
			}
			for _, p := range parcelsThatMayBe() {
				l := slices.Clone(n.Flight)
				p.No = 1 + i%n.Last
				l[i] = p
				if !net.Right(api.Net{Flight: l, Last: n.Last}) {
					t.Fatalf("%s, with %v at %d, may be", name, p, i)
				}
			}
		}
	}
}

// P15.1: Right: Last, at its bounds and at the greatest number.
func TestRightOfLast(t *testing.T) {
	for name, n := range netsThatMayBe() {
		greatest := flying(n.Flight...).Last
		for _, last := range append(edges(), greatest-1, greatest, greatest+1) {
			want := greatest <= last && 0 <= last && last <= most
			if net.Right(api.Net{Flight: n.Flight, Last: last}) != want {
				t.Errorf("%s, Last %d: Right = %v", name, last, !want)
			}
		}
	}
}

// P15.1 and P15.2: all calls refuse a net that may not be, whatever else is amiss.
func TestNetsThatMayNotBe(t *testing.T) {
	for name, n := range netsThatMayNotBe() {
		for _, p := range []api.Parcel{told(1, 1, 1, 1), answer(0, 9, 3, 9, true), {}} {
			if got, no, e := net.Post(n, p); !same(got, api.Net{}) || no != 0 || e != api.ErrArg {
				t.Fatalf("%s: Post of %v = %v, %d, %d", name, p, got, no, e)
			}
		}
		for _, place := range append(edges(), len(n.Flight)-1, len(n.Flight)) {
			if got, p, e := net.Take(n, place); !same(got, api.Net{}) || p != (api.Parcel{}) || e != api.ErrArg {
				t.Fatalf("%s: Take %d = %v, %v, %d", name, place, got, p, e)
			}
			if got, e := net.Twice(n, place); !same(got, api.Net{}) || e != api.ErrArg {
				t.Fatalf("%s: Twice %d = %v, %d", name, place, got, e)
			}
			if got, e := net.Last(n, place); !same(got, api.Net{}) || e != api.ErrArg {
				t.Fatalf("%s: Last %d = %v, %d", name, place, got, e)
			}
		}
	}
}

// P15.1: Post: the edges of what is handed; ErrArg is told ahead of ErrFull.
func TestPostOfParcels(t *testing.T) {
	for name, n := range netsThatMayBe() {
		full := len(n.Flight) == 64 || n.Last == most
		for _, p := range slices.Concat(parcelsThatMayBe(), besides(told(3, 3, 3, 3)), besides(answer(2, most, 1, 1, false))) {
			_, no, e := post(t, n, p)
			switch {
			case !isParcel(p) && e != api.ErrArg, isParcel(p) && full && e != api.ErrFull, isParcel(p) && !full && no != n.Last+1:
				t.Fatalf("%s: Post of %v tells %d, %d", name, p, no, e)
			}
		}
		for _, p := range parcelsThatMayNotBe() {
			if _, _, e := post(t, n, p); e != api.ErrArg {
				t.Fatalf("%s: Post of %v tells %d", name, p, e)
			}
		}
	}
}

// P15.1: Post: a parcel's own number counts for nothing, whatever it is.
func TestPostOfAnyNumber(t *testing.T) {
	for name, n := range netsThatMayBe() {
		want, wantNo, wantE := net.Post(n, told(0, 4, 2, 6))
		for _, own := range append(edges(), n.Last-1, n.Last, n.Last+1, n.Last+2) {
			if got, no, e := post(t, n, told(own, 4, 2, 6)); !same(got, want) || no != wantNo || e != wantE {
				t.Errorf("%s: Post of number %d = %v, %d, %d", name, own, got, no, e)
			}
		}
	}
}

// P15.1 and P15.2: 64 are in flight, and no more; what does not make them more goes on; when one is taken, there is room for one.
func TestFull(t *testing.T) {
	var n api.Net
	for i := range 64 {
		var e api.Errno
		if n, _, e = post(t, n, told(0, 100+i, 1+i%3, 300-i)); e != api.OK || len(n.Flight) != i+1 {
			t.Fatalf("Post of %d tells %d", i, e)
		}
	}
	if _, _, e := post(t, n, told(1, 1, 1, 1)); e != api.ErrFull {
		t.Errorf("Post of one more tells %d", e)
	}
	for place := range 64 {
		if _, e := twice(t, n, place); e != api.ErrFull {
			t.Errorf("Twice %d, of 64, tells %d", place, e)
		}
		if _, e := last(t, n, place); e != api.OK {
			t.Errorf("Last %d, of 64, tells %d", place, e)
		}
		rest, _, e := take(t, n, place)
		if e != api.OK || len(rest.Flight) != 63 {
			t.Fatalf("Take %d, of 64, tells %d", place, e)
		}
		again, no, e := post(t, rest, told(1, 1, 1, 1))
		if e != api.OK || no != 65 || again.Flight[63] != told(65, 1, 1, 1) {
			t.Errorf("Post instead of %d is %v, %d, %d", place, again, no, e)
		}
		if again, e = twice(t, rest, 62-place%63); e != api.OK || len(again.Flight) != 64 {
			t.Errorf("Twice instead of %d tells %d", place, e)
		}
	}
}

// P15.2: Twice: that there is none at that place is told ahead of that 64 are in flight, as it is named first.
func TestTwiceOfNoneWhenFull(t *testing.T) {
	n := flying(inOrder(64)...)
	for _, place := range []int{math.MinInt, -1, 64, 65, math.MaxInt} {
		if _, e := twice(t, n, place); e != api.ErrNone {
			t.Errorf("Twice %d, of 64, tells %d", place, e)
		}
	}
}

// P15.1: Post: numbers go up to 2^40, and there is none behind it, also if nothing is in flight; all else goes on.
func TestLastNumber(t *testing.T) {
	for _, n := range []api.Net{{Last: most - 1}, {Last: most - 1, Flight: []api.Parcel{told(3, 9, 2, 9)}}} {
		n, no, e := post(t, n, told(0, most, 1, most))
		if no != most || e != api.OK {
			t.Fatalf("the last number is %d, %d", no, e)
		}
		if _, _, e := post(t, n, told(0, 1, 1, 1)); e != api.ErrFull {
			t.Errorf("one more tells %d", e)
		}
		end := len(n.Flight) - 1
		if _, e := twice(t, n, end); e != api.OK {
			t.Errorf("Twice tells %d", e)
		}
		if _, e := last(t, n, 0); e != api.OK {
			t.Errorf("Last tells %d", e)
		}
		n, _, _ = take(t, n, end)
		if _, _, e := post(t, n, told(0, 1, 1, 1)); e != api.ErrFull || n.Last != most {
			t.Errorf("one more, when it is taken, tells %d", e)
		}
	}
}

// P15.2: at each place: what is taken, what is there twice, and what is the last one.
func TestAtEachPlace(t *testing.T) {
	for name, n := range netsThatMayBe() {
		for i, p := range n.Flight {
			others := slices.Concat(n.Flight[:i], n.Flight[i+1:])
			rest, got, e := take(t, n, i)
			if e != api.OK || got != p || rest.Last != n.Last || !slices.Equal(rest.Flight, others) {
				t.Errorf("%s: Take %d = %v, %v, %d", name, i, rest, got, e)
			}
			moved, e := last(t, n, i)
			if e != api.OK || moved.Last != n.Last || !slices.Equal(moved.Flight, append(others, p)) {
				t.Errorf("%s: Last %d = %v, %d", name, i, moved, e)
			}
			doubled, e := twice(t, n, i)
			if len(n.Flight) < 64 && (e != api.OK || doubled.Last != n.Last || !slices.Equal(doubled.Flight, append(slices.Clone(n.Flight), p))) {
				t.Errorf("%s: Twice %d = %v, %d", name, i, doubled, e)
			}
		}
	}
}

// P15.2: of a place beside them there is none.
func TestNoSuchPlace(t *testing.T) {
	for name, n := range netsThatMayBe() {
		for _, place := range append(edges(), len(n.Flight), len(n.Flight)+1, -len(n.Flight)) {
			if 0 <= place && place < len(n.Flight) {
				continue
			}
			_, p, e := take(t, n, place)
			_, e2 := twice(t, n, place)
			_, e3 := last(t, n, place)
			if p != (api.Parcel{}) || e != api.ErrNone || e2 != api.ErrNone || e3 != api.ErrNone {
				t.Errorf("%s: of %d: %v, %d, %d, %d", name, place, p, e, e2, e3)
			}
		}
	}
}

// P1, P15.1 and P15.2: all calls, at all edges of all that they are handed.
func TestAllCallsAtEdges(t *testing.T) {
	parcels := slices.Concat(besides(told(1, 1, 1, 1)), besides(answer(7, 7, 3, 7, true)))
	for _, nets := range []map[string]api.Net{netsThatMayBe(), netsThatMayNotBe()} {
		for _, n := range nets {
			for i, p := range parcels {
				each(t, n, p, edges()[i%len(edges())])
			}
		}
	}
}

// P15.1 and P15.2: all calls, of all rows of few, with some that may not be among them, at all places.
func TestAllRowsOfFew(t *testing.T) {
	few := []api.Parcel{told(1, 1, 1, 1), told(2, 2, 1, 1), answer(2, 1, 3, 2, true), answer(3, 1, 2, 1, false), told(4, 1, 3, 1), told(5, 1, 4, 1)}
	right := 0
	for _, l := range rows(few, 4) {
		for _, last := range []int{0, 3, 5} {
			n := api.Net{Last: last, Flight: l}
			if isNet(n) {
				right++
			}
			for place := -1; place <= len(l); place++ {
				each(t, n, few[(place+1)%len(few)], place)
			}
		}
	}
	if right < 500 {
		t.Errorf("just %d of them may be", right)
	}
}

// P15.3: what is taken was posted so, once for its Post and once for each Twice, whatever was turned about: all calls in turns.
func TestInTurns(t *testing.T) {
	var n api.Net
	posted, due, errs, none := map[int]api.Parcel{}, map[int]int{}, map[api.Errno]int{}, 0
	seed := uint32(1)
	for i := range 12000 {
		seed = seed*1664525 + 1013904223
		r := int(seed >> 12)
		place := r/64%(len(n.Flight)+2) - 1
		var after api.Net
		var e api.Errno
		switch turn := i % 2000; {
		case r%8 == 0:
			after, e = last(t, n, place)
		case r%8 == 1:
			if after, e = twice(t, n, place); e == api.OK {
				due[n.Flight[place].No]++
			}
		case turn < 1000 && r%8 < 6:
			p := parcelsThatMayBe()[r/8%60]
			p.No = r
			var no int
			if after, no, e = post(t, n, p); e == api.OK {
				p.No = no
				posted[no], due[no] = p, 1
			}
		default:
			var p api.Parcel
			if after, p, e = take(t, n, place); e == api.OK {
				due[p.No]--
				if p != posted[p.No] || due[p.No] < 0 {
					t.Fatalf("%v is taken; posted was %v, due %d times still", p, posted[p.No], due[p.No]+1)
				}
			}
		}
		if e == api.OK {
			n = after
		}
		errs[e]++
		if len(n.Flight) == 0 {
			none++
		}
	}
	for _, p := range n.Flight {
		due[p.No]--
	}
	for no, times := range due {
		if times != 0 {
			t.Errorf("number %d is due %d times more than it is there", no, times)
		}
	}
	if len(posted) != n.Last {
		t.Errorf("%d were posted, the last one %d", len(posted), n.Last)
	}
	if errs[api.OK] < 2000 || errs[api.ErrFull] < 20 || errs[api.ErrNone] < 20 || none < 20 {
		t.Errorf("errors %v; none were in flight %d times", errs, none)
	}
}

// P15.3: without Twice each is taken once, in whatever order they are taken, and however they are turned about between.
func TestEachIsTakenOnce(t *testing.T) {
	for seed := range uint32(60) {
		var n api.Net
		r, size := seed+1, int(seed)+5
		for i := range size {
			n, _, _ = post(t, n, told(9, 100+i, 1+i%3, 1+i))
		}
		taken := map[int]int{}
		for range size {
			r = r*1664525 + 1013904223
			n, _ = last(t, n, int(r>>20)%len(n.Flight))
			var p api.Parcel
			n, p, _ = take(t, n, int(r>>12)%len(n.Flight))
			if p != told(p.No, 99+p.No, 1+(p.No-1)%3, p.No) {
				t.Fatalf("%v was not posted so", p)
			}
			taken[p.No]++
		}
		for no := 1; no <= size; no++ {
			if taken[no] != 1 {
				t.Errorf("%d of %d is taken %d times", no, size, taken[no])
			}
		}
		if len(n.Flight) != 0 || n.Last != size {
			t.Errorf("%v is left of %d", n, size)
		}
	}
}

// R3: no list is an empty one.
func TestNoListIsAnEmptyOne(t *testing.T) {
	for _, l := range [][]api.Parcel{nil, {}, make([]api.Parcel, 0, 5)} {
		for _, last := range []int{-1, 0, 1, most, most + 1} {
			n := api.Net{Last: last, Flight: l}
			if net.Right(n) != (0 <= last && last <= most) {
				t.Errorf("Last %d: Right = %v", last, net.Right(n))
			}
			for _, p := range []api.Parcel{told(1, 1, 1, 1), {}} {
				for _, place := range edges() {
					each(t, n, p, place)
				}
			}
		}
	}
}

// R4, and the language's rule of new memory: no list that is handed in is changed, not even behind its end, and none that is answered is a part of it.
func TestListsStay(t *testing.T) {
	spoiled, scribbled := told(-7, 7, -7, -7), told(-8, 8, -8, -8)
	calls := map[string]func(n api.Net, place int) api.Net{
		"Right": func(n api.Net, _ int) api.Net { net.Right(n); return api.Net{} },
		"Post":  func(n api.Net, _ int) api.Net { got, _, _ := net.Post(n, told(1, 5, 1, 5)); return got },
		"Take":  func(n api.Net, place int) api.Net { got, _, _ := net.Take(n, place); return got },
		"Twice": func(n api.Net, place int) api.Net { got, _ := net.Twice(n, place); return got },
		"Last":  func(n api.Net, place int) api.Net { got, _ := net.Last(n, place); return got },
	}
	for call, do := range calls {
		for name, n := range netsThatMayBe() {
			for place := -1; place <= len(n.Flight); place++ {
				tail := append(slices.Clone(n.Flight), spoiled, spoiled, spoiled)
				handed := slices.Clone(tail)
				answer := do(api.Net{Last: n.Last, Flight: handed[:len(n.Flight)]}, place).Flight
				for i := range answer[:cap(answer)] {
					answer[:cap(answer)][i] = scribbled
				}
				if !slices.Equal(handed, tail) {
					t.Fatalf("%s, of %d, changes %s", call, place, name)
				}
			}
		}
	}
}

// R1: calls that run side by side, or one behind the other, know nothing of each other.
func TestNothingIsKept(t *testing.T) {
	n := flying(many(21, 50)...)
	var all sync.WaitGroup
	for i := range 16 {
		all.Go(func() {
			p, place := parcelsThatMayBe()[i*3], i*3
			posted, number, _ := postAnswer(n, p)
			rest, it, _ := takeAnswer(n, place)
			doubled, _ := twiceAnswer(n, place)
			moved, _ := lastAnswer(n, place)
			for range 40 {
				a, no, _ := net.Post(n, p)
				b, x, _ := net.Take(n, place)
				c, _ := net.Twice(n, place)
				d, _ := net.Last(n, place)
				if !same(a, posted) || no != number || !same(b, rest) || x != it || !same(c, doubled) || !same(d, moved) {
					t.Error("a call answers something else")
					return
				}
			}
		})
	}
	all.Wait()
}
