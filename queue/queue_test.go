package queue_test

import (
	"math"
	"slices"
	"sync"
	"testing"

	"tarry/api"
	"tarry/queue"
)

// The chapter's example.
func TestExample(t *testing.T) {
	l := []api.Wait{{Class: 1, Seq: 4, Order: 1}, {Class: 0, Seq: 9, Order: 2}, {Class: 1, Seq: 2, Order: 3}}
	want := []api.Wait{{Class: 0, Seq: 9, Order: 2}, {Class: 1, Seq: 2, Order: 3}, {Class: 1, Seq: 4, Order: 1}}
	if got := allPopped(t, made(t, l)); !slices.Equal(got, want) {
		t.Errorf("popped: %v", got)
	}
}

// P6.1: Less, written out.
func TestLess(t *testing.T) {
	for _, c := range []struct {
		a, b api.Wait
		want bool
	}{
		{api.Wait{Class: 0, Seq: 9, Order: 9}, api.Wait{Class: 1, Seq: 1, Order: 1}, true},
		{api.Wait{Class: 1, Seq: 1, Order: 1}, api.Wait{Class: 0, Seq: 9, Order: 9}, false},
		{api.Wait{Class: 2, Seq: 1, Order: 9}, api.Wait{Class: 2, Seq: 2, Order: 1}, true},
		{api.Wait{Class: 2, Seq: 2, Order: 1}, api.Wait{Class: 2, Seq: 1, Order: 9}, false},
		{api.Wait{Class: 2, Seq: 2, Order: 1}, api.Wait{Class: 2, Seq: 2, Order: 2}, true},
		{api.Wait{Class: 2, Seq: 2, Order: 2}, api.Wait{Class: 2, Seq: 2, Order: 1}, false},
		{api.Wait{Class: 2, Seq: 2, Order: 2}, api.Wait{Class: 2, Seq: 2, Order: 2}, false},
		{api.Wait{Class: 3, Seq: most - 1, Order: most}, api.Wait{Class: 3, Seq: most, Order: 1}, true},
		{api.Wait{Class: 3, Seq: most, Order: most - 1}, api.Wait{Class: 3, Seq: most, Order: most}, true},
		// Waits that may not be have an order, too.
		{api.Wait{}, api.Wait{}, false},
		{api.Wait{Class: math.MinInt}, api.Wait{Class: math.MaxInt}, true},
		{api.Wait{Class: math.MaxInt}, api.Wait{Class: math.MinInt}, false},
		{api.Wait{Class: -1, Seq: math.MaxInt}, api.Wait{Class: 0, Seq: math.MinInt}, true},
		{api.Wait{Seq: math.MinInt, Order: 1}, api.Wait{Seq: math.MaxInt}, true},
		{api.Wait{Seq: math.MaxInt, Order: 1}, api.Wait{Seq: math.MinInt, Order: 5}, false},
		{api.Wait{Order: math.MinInt}, api.Wait{Order: math.MaxInt}, true},
		{api.Wait{Order: math.MaxInt}, api.Wait{Order: math.MinInt}, false},
	} {
		if got := queue.Less(c.a, c.b); got != c.want {
			t.Errorf("Less(%v, %v) = %v", c.a, c.b, got)
		}
	}
}

// P6.1: Less, of all pairs of edges, those that may not be among them.
func TestLessOfAllPairs(t *testing.T) {
	all := append(waitsThatMayBe(), waitsThatMayNotBe()...)
	for _, a := range all {
		for _, b := range all {
			if queue.Less(a, b) != ahead(a, b) {
				t.Fatalf("Less(%v, %v) = %v", a, b, queue.Less(a, b))
			}
		}
	}
}

// P6.1: Right: each of the edges, and behind them.
func TestRight(t *testing.T) {
	for _, w := range waitsThatMayBe() {
		if !queue.Right([]api.Wait{w}) || !queue.Right([]api.Wait{w, w, w}) {
			t.Errorf("%v may be", w)
		}
	}
	for name, l := range heaps() {
		if !queue.Right(l) {
			t.Errorf("%s: they stand as a heap: %v", name, l)
		}
	}
	for name, l := range rowsThatMayBe() {
		if queue.Right(l) != asHeap(l) {
			t.Errorf("%s: Right = %v", name, queue.Right(l))
		}
	}
	for name, l := range rowsThatMayNotBe() {
		if queue.Right(l) {
			t.Errorf("%s: they may not be: %v", name, l)
		}
	}
}

// P6.1: Right: at each place, one that differs from all others by each of the fields.
func TestRightAtEachPlace(t *testing.T) {
	others := api.Wait{Class: 2, Seq: 50, Order: 50}
	behind := []api.Wait{{Class: 2, Seq: 50, Order: 51}, {Class: 2, Seq: 51, Order: 1}, {Class: 3, Seq: 1, Order: 1}}
	aheadOfThem := []api.Wait{{Class: 2, Seq: 50, Order: 49}, {Class: 2, Seq: 49, Order: most}, {Class: 1, Seq: most, Order: most}}
	for n := 1; n <= 64; n++ {
		l := slices.Repeat([]api.Wait{others}, n)
		for at := range l {
			for _, w := range behind {
				l[at] = w
				if queue.Right(l) != (2*at+1 >= n) {
					t.Fatalf("%d waits, %v at %d: Right = %v", n, w, at, queue.Right(l))
				}
			}
			for _, w := range aheadOfThem {
				l[at] = w
				if queue.Right(l) != (at == 0) {
					t.Fatalf("%d waits, %v at %d: Right = %v", n, w, at, queue.Right(l))
				}
			}
			l[at] = others
		}
		if !queue.Right(l) {
			t.Fatalf("%d waits that are the same: Right = false", n)
		}
	}
}

// P6.1 and P6.2: of few waits all rows: Right, Make, Sorted, Push and Pop.
func TestAllRowsOfFew(t *testing.T) {
	few := []api.Wait{{Class: 0, Seq: 2, Order: 1}, {Class: 1, Seq: 1, Order: 1}, {Class: 1, Seq: 1, Order: 2}, {Class: 1, Seq: 2, Order: 1}}
	for _, l := range rows(few, 6) {
		if queue.Right(l) != asHeap(l) {
			t.Fatalf("Right(%v) = %v", l, queue.Right(l))
		}
		made(t, l)
		if s, e := queue.Sorted(l); e != api.OK || !slices.Equal(s, inOrder(l)) {
			t.Fatalf("Sorted(%v) = %v, %d", l, s, e)
		}
		if !asHeap(l) {
			isRefused(t, l)
			continue
		}
		if len(l) > 0 {
			popped(t, l)
		}
		for _, w := range few {
			pushed(t, l, w)
		}
	}
}

// isRefused holds that nothing is pushed onto what stands as no heap, and nothing popped.
func isRefused(t *testing.T, l []api.Wait) {
	t.Helper()
	for _, w := range []api.Wait{{Class: 1, Seq: 1, Order: 1}, {}} {
		if h, e := queue.Push(l, w); e != api.ErrArg || len(h) > 0 {
			t.Fatalf("Push(%v, %v) = %v, %d; want ErrArg", l, w, h, e)
		}
	}
	if h, w, e := queue.Pop(l); e != api.ErrArg || len(h) > 0 || w != (api.Wait{}) {
		t.Fatalf("Pop(%v) = %v, %v, %d; want ErrArg", l, h, w, e)
	}
}

// P6.1: Make, of rows that may be, and of others; R2: nothing beside an error.
func TestMake(t *testing.T) {
	for _, l := range rowsThatMayBe() {
		made(t, l)
	}
	for _, l := range orders([]api.Wait{{Class: 0, Seq: 3, Order: 1}, {Class: 1, Seq: 1, Order: 4}, {Class: 1, Seq: 1, Order: 5}, {Class: 1, Seq: 2, Order: 1}, {Class: 1, Seq: 2, Order: 1}, {Class: 3, Seq: 1, Order: 1}}) {
		made(t, l)
	}
	for name, l := range rowsThatMayNotBe() {
		if h, e := queue.Make(l); e != api.ErrArg || len(h) > 0 {
			t.Errorf("%s: %d waits, %d; want ErrArg", name, len(h), e)
		}
	}
}

// P6.1: Sorted, so.
func TestSorted(t *testing.T) {
	for name, l := range rowsThatMayBe() {
		if s, e := queue.Sorted(l); e != api.OK || !slices.Equal(s, inOrder(l)) {
			t.Errorf("%s: %v, %d", name, s, e)
		}
	}
	for name, l := range rowsThatMayNotBe() {
		if s, e := queue.Sorted(l); e != api.ErrArg || len(s) > 0 {
			t.Errorf("%s: %d waits, %d; want ErrArg", name, len(s), e)
		}
	}
}

// P6.2: Push: the edges of what is pushed, onto heaps of every length.
func TestPush(t *testing.T) {
	edges := []api.Wait{{Class: 0, Seq: 1, Order: 1}, {Class: 3, Seq: most, Order: most}, {Class: 1, Seq: 3, Order: 2}, {Class: 2, Seq: 5, Order: 7}}
	for name, l := range heaps() {
		for _, w := range edges {
			if len(l) < 64 {
				pushed(t, l, w)
			} else if h, e := queue.Push(l, w); e != api.ErrFull || len(h) > 0 {
				t.Errorf("%s: %d waits, %d; want ErrFull", name, len(h), e)
			}
		}
	}
	for _, w := range waitsThatMayBe() {
		pushed(t, nil, w)
		pushed(t, sunk(many(8, 63)), w)
	}
}

// P6.2: Push: ErrArg goes ahead of ErrFull.
func TestPushErrors(t *testing.T) {
	good := api.Wait{Class: 1, Seq: 1, Order: 1}
	for _, w := range waitsThatMayNotBe() {
		for _, n := range []int{0, 1, 63, 64} {
			if h, e := queue.Push(sunk(many(9, n)), w); e != api.ErrArg || len(h) > 0 {
				t.Errorf("Push of %v onto %d: %d waits, %d; want ErrArg", w, n, len(h), e)
			}
		}
	}
	for name, l := range rowsThatMayNotBe() {
		if h, e := queue.Push(l, good); e != api.ErrArg || len(h) > 0 {
			t.Errorf("%s: %d waits, %d; want ErrArg", name, len(h), e)
		}
	}
	for _, l := range rowsThatMayBe() {
		if !asHeap(l) {
			isRefused(t, l)
		}
	}
}

// P6.2: Pop, of heaps of every length, and of others.
func TestPop(t *testing.T) {
	for _, l := range heaps() {
		if len(l) > 0 {
			popped(t, l)
		}
	}
	for _, l := range [][]api.Wait{nil, {}} {
		if h, w, e := queue.Pop(l); e != api.ErrNone || len(h) > 0 || w != (api.Wait{}) {
			t.Errorf("Pop of none = %v, %v, %d; want ErrNone", h, w, e)
		}
	}
	for _, l := range rowsThatMayNotBe() {
		isRefused(t, l)
	}
}

// P6.3: in whatever order they are pushed, they are popped as they are sorted.
func TestPoppedIsSorted(t *testing.T) {
	few := []api.Wait{{Class: 0, Seq: 3, Order: 1}, {Class: 1, Seq: 1, Order: 4}, {Class: 1, Seq: 1, Order: 5}, {Class: 1, Seq: 2, Order: 1}, {Class: 1, Seq: 2, Order: 1}, {Class: 3, Seq: 1, Order: 1}}
	for _, l := range orders(few) {
		arePoppedAsSorted(t, l)
	}
	for seed := range uint32(8) {
		for _, l := range [][]api.Wait{waitsThatMayBe(), many(seed, 64), many(seed, 33), many(seed, 20)} {
			arePoppedAsSorted(t, shuffled(seed, l))
		}
	}
}

func arePoppedAsSorted(t *testing.T, l []api.Wait) {
	t.Helper()
	s, e := queue.Sorted(l)
	if e != api.OK {
		t.Fatalf("Sorted(%v) tells %d", l, e)
	}
	var h []api.Wait
	for _, w := range l {
		h = pushed(t, h, w)
	}
	if got := allPopped(t, h); !slices.Equal(got, s) {
		t.Fatalf("%v are popped as %v, sorted as %v", l, got, s)
	}
	if got := allPopped(t, made(t, l)); !slices.Equal(got, s) {
		t.Fatalf("%v, made a heap, are popped as %v, sorted as %v", l, got, s)
	}
}

// P6.3: pushed and popped in turns, what comes out each time goes ahead of all that stays.
func TestPushedAndPoppedInTurns(t *testing.T) {
	var h []api.Wait
	for i, w := range many(10, 400) {
		if len(h) == 64 || i%3 == 2 {
			h, _ = popped(t, h)
		}
		h = pushed(t, h, w)
		if !queue.Right(h) {
			t.Fatalf("%v is no heap", h)
		}
	}
}

// R4, and the language's rule of new memory: no list that is handed in is changed, not even behind its end, and none that is answered is a part of it.
func TestListsStay(t *testing.T) {
	tail := api.Wait{Class: 9, Seq: 9, Order: 9}
	calls := map[string]func([]api.Wait) []api.Wait{
		"Make":   func(l []api.Wait) []api.Wait { h, _ := queue.Make(l); return h },
		"Sorted": func(l []api.Wait) []api.Wait { h, _ := queue.Sorted(l); return h },
		"Push":   func(l []api.Wait) []api.Wait { h, _ := queue.Push(l, api.Wait{Class: 0, Seq: 1, Order: 1}); return h },
		"Pop":    func(l []api.Wait) []api.Wait { h, _, _ := queue.Pop(l); return h },
		"Right":  func(l []api.Wait) []api.Wait { queue.Right(l); return nil },
	}
	for name, call := range calls {
		for _, n := range []int{0, 1, 2, 3, 10, 63, 64, 65} {
			for _, l := range [][]api.Wait{many(11, n), sunk(many(11, n)), inOrder(many(11, n)), from(inOrder(many(11, n)))} {
				handed := append(slices.Clone(l), tail, tail)
				h := call(handed[:n])
				for i := range h[:cap(h)] {
					h[:cap(h)][i] = api.Wait{Class: 7, Seq: 7, Order: 7}
				}
				if !slices.Equal(handed, append(slices.Clone(l), tail, tail)) {
					t.Errorf("%s of %d waits changes them", name, n)
				}
			}
		}
	}
}

// R3: no list is an empty one.
func TestNoListIsAnEmptyOne(t *testing.T) {
	for _, l := range [][]api.Wait{nil, {}, make([]api.Wait, 0, 5)} {
		h, e := queue.Make(l)
		s, e2 := queue.Sorted(l)
		if !queue.Right(l) || len(h) > 0 || e != api.OK || len(s) > 0 || e2 != api.OK {
			t.Errorf("%v: Right %v; Make %v, %d; Sorted %v, %d", l, queue.Right(l), h, e, s, e2)
		}
		pushed(t, l, api.Wait{Class: 3, Seq: 1, Order: 1})
	}
}

// R1: calls that run side by side, or one behind the other, know nothing of each other.
func TestNothingIsKept(t *testing.T) {
	heap, other := sunk(many(12, 40)), sunk(many(13, 64))
	w := api.Wait{Class: 1, Seq: 2, Order: 3}
	first, _, _ := queue.Pop(heap)
	second, _ := queue.Push(heap, w)
	var all sync.WaitGroup
	for i := range 16 {
		all.Go(func() {
			for range 40 {
				if i%2 == 0 {
					queue.Pop(other)
					queue.Sorted(other)
					continue
				}
				a, _, _ := queue.Pop(heap)
				b, _ := queue.Push(heap, w)
				if !slices.Equal(a, first) || !slices.Equal(b, second) {
					t.Error("a call answers something else")
					return
				}
			}
		})
	}
	all.Wait()
}
