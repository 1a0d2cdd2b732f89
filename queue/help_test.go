package queue_test

import (
	"math"
	"slices"
	"strconv"
	"testing"

	"tarry/api"
	"tarry/queue"
)

const most = 1 << 40 // of a Seq, and of an Order

// ahead tells by the fields as a row whether one goes ahead of another one.
func ahead(a, b api.Wait) bool {
	return slices.Compare([]int{a.Class, a.Seq, a.Order}, []int{b.Class, b.Seq, b.Order}) < 0
}

// inOrder are all waits as they go: each is put ahead of the first one that does not go ahead of it.
func inOrder(l []api.Wait) []api.Wait {
	var all []api.Wait
	for _, w := range l {
		at := 0
		for at < len(all) && ahead(all[at], w) {
			at++
		}
		all = slices.Insert(all, at, w)
	}
	return all
}

// asHeap tells of waits that may be whether they stand as a heap: what is below each place is at twice it and one, or two, more.
func asHeap(l []api.Wait) bool {
	for above := range l {
		for _, below := range []int{2*above + 1, 2*above + 2} {
			if below < len(l) && ahead(l[below], l[above]) {
				return false
			}
		}
	}
	return true
}

// sameOnes tells whether there are the same waits, each as often, in whatever order.
func sameOnes(a, b []api.Wait) bool { return slices.Equal(inOrder(a), inOrder(b)) }

// many are so many waits in no order, the same at each run, some of them twice and more.
func many(seed uint32, n int) []api.Wait {
	l := make([]api.Wait, n)
	next := func(below uint32) int {
		seed = seed*1664525 + 1013904223
		return int(seed >> 16 % below)
	}
	for i := range l {
		l[i] = api.Wait{Class: next(4), Seq: 1 + next(7), Order: 1 + next(5)}
	}
	return l
}

// shuffled are the same waits in another order, by the seed.
func shuffled(seed uint32, l []api.Wait) []api.Wait {
	all := slices.Clone(l)
	for i := len(all) - 1; i > 0; i-- {
		seed = seed*1664525 + 1013904223
		k := int(seed>>8) % (i + 1)
		all[i], all[k] = all[k], all[i]
	}
	return all
}

// orders are all orders of so few waits.
func orders(l []api.Wait) [][]api.Wait {
	if len(l) == 0 {
		return [][]api.Wait{nil}
	}
	var all [][]api.Wait
	for i, w := range l {
		for _, others := range orders(slices.Delete(slices.Clone(l), i, i+1)) {
			all = append(all, append(others, w))
		}
	}
	return all
}

// rows are all rows of up to so many waits, out of those.
func rows(of []api.Wait, upTo int) [][]api.Wait {
	all, last := [][]api.Wait{nil}, [][]api.Wait{nil}
	for range upTo {
		var next [][]api.Wait
		for _, l := range last {
			for _, w := range of {
				next = append(next, append(slices.Clone(l), w))
			}
		}
		all, last = append(all, next...), next
	}
	return all
}

// waitsThatMayBe are the edges of each field.
func waitsThatMayBe() []api.Wait {
	var l []api.Wait
	for class := range 4 {
		for _, seq := range []int{1, 2, most - 1, most} {
			for _, order := range []int{1, 2, most - 1, most} {
				l = append(l, api.Wait{Class: class, Seq: seq, Order: order})
			}
		}
	}
	return l
}

// waitsThatMayNotBe have one field, or all, behind an edge.
func waitsThatMayNotBe() []api.Wait {
	l := []api.Wait{{}, {Class: -1}, {Class: 4, Seq: most + 1, Order: most + 1}}
	for _, class := range []int{-1, 4, 5, -4, 256, 1 << 32, math.MaxInt, math.MinInt} {
		l = append(l, api.Wait{Class: class, Seq: 1, Order: 1}, api.Wait{Class: class, Seq: most, Order: most})
	}
	for _, n := range []int{0, -1, most + 1, -most, 1 << 41, 1<<41 + 1, 1<<62 + 1, math.MaxInt, math.MinInt} {
		l = append(l, api.Wait{Class: 0, Seq: n, Order: 1}, api.Wait{Class: 3, Seq: n, Order: most})
		l = append(l, api.Wait{Class: 0, Seq: 1, Order: n}, api.Wait{Class: 3, Seq: most, Order: n})
	}
	return l
}

// rowsThatMayBe are rows that may be, and most of which stand as no heap.
func rowsThatMayBe() map[string][]api.Wait {
	same := slices.Repeat([]api.Wait{{Class: 2, Seq: 5, Order: 7}}, 64)
	all := map[string][]api.Wait{
		"no list":             nil,
		"none":                {},
		"the edges, 64":       waitsThatMayBe(),
		"the same, 64 times":  same,
		"the same, 63 times":  same[:63],
		"from behind, 64":     from(inOrder(many(3, 64))),
		"from behind, 10":     from(inOrder(many(3, 10))),
		"in order, 64":        inOrder(many(4, 64)),
		"in order, 63":        inOrder(many(4, 63)),
		"an example's":        {{Class: 1, Seq: 4, Order: 1}, {Class: 0, Seq: 9, Order: 2}, {Class: 1, Seq: 2, Order: 3}},
		"the first one last":  append(slices.Repeat([]api.Wait{{Class: 3, Seq: most, Order: most}}, 63), api.Wait{Class: 0, Seq: 1, Order: 1}),
		"the last one first":  append([]api.Wait{{Class: 3, Seq: most, Order: most}}, same[1:]...),
		"all but one of them": slices.Delete(waitsThatMayBe(), 20, 21),
	}
	for n := range uint32(65) {
		all["many, "+strconv.Itoa(int(n))] = many(n, int(n))
	}
	return all
}

// from are waits from behind.
func from(l []api.Wait) []api.Wait {
	all := slices.Clone(l)
	slices.Reverse(all)
	return all
}

// rowsThatMayNotBe are too many, or have one that may not be.
func rowsThatMayNotBe() map[string][]api.Wait {
	all := map[string][]api.Wait{
		"65":                     inOrder(many(5, 65)),
		"65, the same":           slices.Repeat([]api.Wait{{Class: 1, Seq: 1, Order: 1}}, 65),
		"128":                    inOrder(many(5, 128)),
		"a thousand":             inOrder(many(5, 1000)),
		"64 that may not be":     make([]api.Wait, 64),
		"65 that may not be":     make([]api.Wait, 65),
		"all, of a class behind": slices.Repeat([]api.Wait{{Class: 4, Seq: 1, Order: 1}}, 3),
	}
	for i, w := range waitsThatMayNotBe() {
		name := strconv.Itoa(i)
		all["one alone, "+name] = []api.Wait{w}
		all["the first of three, "+name] = []api.Wait{w, {Class: 3, Seq: 1, Order: 1}, {Class: 3, Seq: 1, Order: 1}}
		all["the last of three, "+name] = []api.Wait{{Class: 0, Seq: 1, Order: 1}, {Class: 0, Seq: 1, Order: 1}, w}
		all["the last of 64, "+name] = append(inOrder(many(6, 63)), w)
		all["amid 64, "+name] = slices.Insert(inOrder(many(6, 63)), 31, w)
	}
	return all
}

// heaps are rows that stand as a heap: all that may be, so made by the test's own means, and in order.
func heaps() map[string][]api.Wait {
	all := map[string][]api.Wait{}
	for name, l := range rowsThatMayBe() {
		all[name+", in order"] = inOrder(l)
		all[name+", sunk"] = sunk(l)
	}
	return all
}

// sunk is a heap of waits: each is put at the end, and goes up as long as it goes ahead of the one above it.
func sunk(l []api.Wait) []api.Wait {
	var all []api.Wait
	for _, w := range l {
		all = append(all, w)
		for at := len(all) - 1; at > 0 && ahead(all[at], all[(at-1)/2]); at = (at - 1) / 2 {
			all[at], all[(at-1)/2] = all[(at-1)/2], all[at]
		}
	}
	return all
}

// made is Make's answer, which is held against what it must be.
func made(t *testing.T, l []api.Wait) []api.Wait {
	t.Helper()
	h, e := queue.Make(l)
	if e != api.OK || !sameOnes(h, l) || !asHeap(h) {
		t.Fatalf("Make(%v) = %v, %d", l, h, e)
	}
	return h
}

// pushed is Push's answer, held so.
func pushed(t *testing.T, l []api.Wait, w api.Wait) []api.Wait {
	t.Helper()
	h, e := queue.Push(l, w)
	if e != api.OK || !sameOnes(h, append(slices.Clone(l), w)) || !asHeap(h) {
		t.Fatalf("Push(%v, %v) = %v, %d", l, w, h, e)
	}
	return h
}

// popped is Pop's answer, held so.
func popped(t *testing.T, l []api.Wait) ([]api.Wait, api.Wait) {
	t.Helper()
	h, w, e := queue.Pop(l)
	if e != api.OK || !sameOnes(append(slices.Clone(h), w), l) || !asHeap(h) {
		t.Fatalf("Pop(%v) = %v, %v, %d", l, h, w, e)
	}
	for _, other := range h {
		if ahead(other, w) {
			t.Fatalf("Pop(%v): %v goes ahead of %v", l, other, w)
		}
	}
	return h, w
}

// allPopped are all that are popped, one by one.
func allPopped(t *testing.T, h []api.Wait) []api.Wait {
	t.Helper()
	var all []api.Wait
	for len(h) > 0 {
		others, w := popped(t, h)
		h, all = others, append(all, w)
	}
	return all
}
