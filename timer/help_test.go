package timer_test

import (
	"cmp"
	"math"
	"slices"
	"strconv"
	"testing"

	"tarry/api"
	"tarry/timer"
)

const most = 1 << 40 // of an At, and of an Order

func at(at, kind, order int) api.Timer { return api.Timer{At: at, Kind: kind, Order: order} }

// isTimer tells by numbers that have no sign whether a timer may be.
func isTimer(x api.Timer) bool {
	return uint(x.At) <= most && uint(x.Kind-1) < 3 && uint(x.Order-1) < most
}

// key is a text for each timer that may be, and these texts stand as the timers do: all numbers have as many digits.
func key(x api.Timer) string {
	return strconv.Itoa(2*most+x.At) + strconv.Itoa(x.Kind) + strconv.Itoa(2*most+x.Order)
}

// inOrder are timers that may be, as they stand.
func inOrder(l []api.Timer) []api.Timer {
	return slices.SortedFunc(slices.Values(l), func(a, b api.Timer) int { return cmp.Compare(key(a), key(b)) })
}

// areTimers tells by counting unlike ones whether timers may be, in whatever order.
func areTimers(l []api.Timer) bool {
	ofOrders := map[[2]int]int{}
	for _, x := range l {
		if !isTimer(x) {
			return false
		}
		ofOrders[[2]int{x.Kind, x.Order}]++
	}
	return len(l) < 97 && len(ofOrders) == len(l)
}

func isRow(l []api.Timer) bool {
	return areTimers(l) && slices.Equal(l, inOrder(l))
}

// without are the timers that are not of a kind and an order.
func without(l []api.Timer, kind, order int) []api.Timer {
	var all []api.Timer
	for _, x := range l {
		if x.Kind != kind || x.Order != order {
			all = append(all, x)
		}
	}
	return all
}

// The answers that calls must give: each by the words of its promise.

func setAnswer(l []api.Timer, x api.Timer) ([]api.Timer, api.Errno) {
	if !isRow(l) || !isTimer(x) {
		return nil, api.ErrArg
	}
	rest := without(l, x.Kind, x.Order)
	if len(rest) == 96 {
		return nil, api.ErrFull
	}
	return inOrder(append(rest, x)), api.OK
}

func clearAnswer(l []api.Timer, kind, order int) ([]api.Timer, api.Errno) {
	if !isRow(l) {
		return nil, api.ErrArg
	}
	return without(l, kind, order), api.OK
}

// dueAnswer goes by how many are due, for they stand in front.
func dueAnswer(l []api.Timer, now int) ([]api.Timer, []api.Timer, api.Errno) {
	if !isRow(l) {
		return nil, nil, api.ErrArg
	}
	n := 0
	for _, x := range l {
		if !(x.At > now) {
			n++
		}
	}
	return l[:n], l[n:], api.OK
}

func nextAnswer(l []api.Timer) (int, api.Errno) {
	if !isRow(l) {
		return 0, api.ErrArg
	}
	least, e := 0, api.ErrNone
	for _, x := range l {
		if e == api.ErrNone || x.At < least {
			least, e = x.At, api.OK
		}
	}
	return least, e
}

// answered holds an answer of timers against what it must be.
func answered(t *testing.T, call string, got []api.Timer, e api.Errno, want []api.Timer, wantE api.Errno) {
	t.Helper()
	if e != wantE || !slices.Equal(got, want) {
		t.Fatalf("%s = %v, %d; want %v, %d", call, got, e, want, wantE)
	}
	if e == api.OK && !timer.Right(got) {
		t.Fatalf("%s = %v, which may not be", call, got)
	}
}

// set is Set's answer, held so.
func set(t *testing.T, l []api.Timer, x api.Timer) ([]api.Timer, api.Errno) {
	t.Helper()
	got, e := timer.Set(l, x)
	want, wantE := setAnswer(l, x)
	answered(t, "Set", got, e, want, wantE)
	return got, e
}

// cleared is Clear's answer, held so.
func cleared(t *testing.T, l []api.Timer, kind, order int) ([]api.Timer, api.Errno) {
	t.Helper()
	got, e := timer.Clear(l, kind, order)
	want, wantE := clearAnswer(l, kind, order)
	answered(t, "Clear of "+strconv.Itoa(kind)+", "+strconv.Itoa(order), got, e, want, wantE)
	return got, e
}

// due is Due's answer, held so.
func due(t *testing.T, l []api.Timer, now int) ([]api.Timer, []api.Timer, api.Errno) {
	t.Helper()
	got, rest, e := timer.Due(l, now)
	want, wantRest, wantE := dueAnswer(l, now)
	answered(t, "Due "+strconv.Itoa(now), got, e, want, wantE)
	answered(t, "what is not Due "+strconv.Itoa(now), rest, e, wantRest, wantE)
	return got, rest, e
}

// next is Next's answer, held so.
func next(t *testing.T, l []api.Timer) (int, api.Errno) {
	t.Helper()
	got, e := timer.Next(l)
	if want, wantE := nextAnswer(l); got != want || e != wantE {
		t.Fatalf("Next(%v) = %d, %d; want %d, %d", l, got, e, want, wantE)
	}
	return got, e
}

// each are all calls' answers of timers, and of a timer's At, kind and order, held so.
func each(t *testing.T, l []api.Timer, x api.Timer) {
	t.Helper()
	if timer.Right(l) != isRow(l) {
		t.Fatalf("Right(%v) = %v", l, timer.Right(l))
	}
	set(t, l, x)
	cleared(t, l, x.Kind, x.Order)
	due(t, l, x.At)
	next(t, l)
}

// rows are all rows of up to so many, out of those.
func rows[T any](of []T, upTo int) [][]T {
	all, last := [][]T{nil}, [][]T{nil}
	for range upTo {
		var next [][]T
		for _, l := range last {
			for _, x := range of {
				next = append(next, append(slices.Clone(l), x))
			}
		}
		all, last = append(all, next...), next
	}
	return all
}

// orders are all orders of so few timers.
func orders(l []api.Timer) [][]api.Timer {
	if len(l) == 0 {
		return [][]api.Timer{nil}
	}
	var all [][]api.Timer
	for i, x := range l {
		for _, rest := range orders(slices.Delete(slices.Clone(l), i, i+1)) {
			all = append(all, append(rest, x))
		}
	}
	return all
}

// many are so many timers in no order, the same at each run, up to three of each order, many of them at the same time.
func many(seed uint32, n int) []api.Timer {
	l := make([]api.Timer, n)
	for i := range l {
		seed = seed*1664525 + 1013904223
		l[i] = at(int(seed>>16)%50, 1+i%3, 1+i/3)
	}
	return shuffled(seed, l)
}

// shuffled are the same timers in another order, by the seed.
func shuffled(seed uint32, l []api.Timer) []api.Timer {
	all := slices.Clone(l)
	for i := len(all) - 1; i > 0; i-- {
		seed = seed*1664525 + 1013904223
		k := int(seed>>8) % (i + 1)
		all[i], all[k] = all[k], all[i]
	}
	return all
}

// turned are timers from behind.
func turned(l []api.Timer) []api.Timer {
	all := slices.Clone(l)
	slices.Reverse(all)
	return all
}

// full is a row to which no more timers come.
func full() []api.Timer { return inOrder(many(1, 96)) }

// timersOfOneKind are so many, each of an order of its own.
func timersOfOneKind(n int) []api.Timer {
	l := make([]api.Timer, n)
	for i := range l {
		l[i] = at(1000-i, 2, most-i)
	}
	return l
}

// timersThatMayBe may be, in some order; most of them do not stand in order.
func timersThatMayBe() map[string][]api.Timer {
	all := map[string][]api.Timer{
		"none":               nil,
		"an empty list":      {},
		"the least":          {at(0, 1, 1)},
		"the greatest":       {at(most, 3, most)},
		"both, in order":     {at(0, 1, 1), at(most, 3, most)},
		"both, turned":       {at(most, 3, most), at(0, 1, 1)},
		"of one order":       {at(5, 1, 4), at(5, 2, 4), at(5, 3, 4)},
		"of one time":        {at(5, 1, 1), at(5, 1, 9), at(5, 2, 1), at(5, 3, most)},
		"by times first":     {at(1, 3, 9), at(2, 2, 5), at(3, 1, 1)},
		"by kinds next":      {at(1, 1, 9), at(1, 2, 5), at(1, 3, 1)},
		"by orders, turned":  {at(1, 1, 9), at(1, 1, 5), at(1, 1, 1)},
		"full":               full(),
		"full, turned":       turned(full()),
		"full, of one kind":  timersOfOneKind(96),
		"all but one":        full()[:95],
		"all at one time":    atOneTime(96),
		"edges of all kinds": {at(0, 1, most), at(0, 2, 1), at(most-1, 3, 1), at(most, 1, 1), at(most, 2, most)},
	}
	for _, n := range []int{1, 2, 3, 4, 5, 31, 32, 33, 64, 94, 95, 96} {
		l := many(uint32(n)+9, n)
		all["many, "+strconv.Itoa(n)] = l
		all["many, in order, "+strconv.Itoa(n)] = inOrder(l)
	}
	return all
}

// atOneTime are so many timers whose kinds and orders alone tell them apart.
func atOneTime(n int) []api.Timer {
	l := make([]api.Timer, n)
	for i := range l {
		l[i] = at(7, 1+i%3, 1+i/3)
	}
	return l
}

// inRows are timers in order: all that may be.
func inRows() map[string][]api.Timer {
	all := map[string][]api.Timer{}
	for name, l := range timersThatMayBe() {
		all[name] = inOrder(l)
	}
	return all
}

// timersThatMayNotBe are such by themselves: each has one field behind an edge, or all.
func timersThatMayNotBe() []api.Timer {
	l := []api.Timer{{}, at(-1, 0, 0), at(most+1, 4, most+1)}
	for _, n := range []int{-1, most + 1, -most, 1 << 41, 1<<62 + 1, math.MaxInt, math.MinInt} {
		l = append(l, at(n, 1, 5000), at(500, 1, n))
	}
	for _, kind := range []int{0, -1, 4, 5, -3, 256 + 1, 1<<32 + 1, math.MaxInt, math.MinInt} {
		l = append(l, at(500, kind, 5000))
	}
	return append(l, at(500, 3, 0))
}

// rowsThatMayNotBe may not be in whatever order, by what is amiss.
func rowsThatMayNotBe() map[string][]api.Timer {
	all := map[string][]api.Timer{
		"97":                   inOrder(many(4, 97)),
		"97, of one kind":      inOrder(timersOfOneKind(97)),
		"97, at one time":      inOrder(atOneTime(97)),
		"192":                  inOrder(many(4, 192)),
		"a thousand, the same": slices.Repeat([]api.Timer{at(1, 1, 1)}, 1000),
		"97 of zeros":          make([]api.Timer, 97),
		"twice the same":       {at(1, 1, 1), at(1, 1, 1)},
		"one at two times":     {at(1, 1, 1), at(2, 1, 1)},
		"one far apart":        {at(1, 2, 1), at(2, 1, 1), at(3, 3, 1), at(4, 2, 2), at(5, 2, 1)},
		"one first and last":   append([]api.Timer{at(0, 2, 1)}, inOrder(many(5, 95))...),
	}
	for i, x := range timersThatMayNotBe() {
		name := strconv.Itoa(i)
		all["one alone, "+name] = []api.Timer{x}
		all["one ahead, "+name] = []api.Timer{x, at(600, 2, 2), at(700, 2, 3)}
		all["one between, "+name] = []api.Timer{at(400, 1, 2), x, at(600, 3, 3)}
		all["one behind, "+name] = []api.Timer{at(300, 1, 2), at(400, 1, 3), x}
		all["one of 96, "+name] = append(inOrder(many(6, 95)), x)
	}
	return all
}
