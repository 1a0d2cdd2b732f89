package outbox_test

import (
	"maps"
	"math"
	"slices"
	"strconv"
	"testing"

	"tarry/api"
	"tarry/outbox"
)

const most = 1 << 40 // of a key, of an order, and of a time

func out(key, kind, order, due int) api.Out {
	return api.Out{Key: key, Kind: kind, Order: order, Due: due}
}

// box is an outbox whose last key is that of its last row, if it has one.
func box(rows ...api.Out) api.Outbox {
	b := api.Outbox{Rows: rows}
	if len(rows) > 0 {
		b.Last = rows[len(rows)-1].Key
	}
	return b
}

func same(a, b api.Outbox) bool {
	return a.Last == b.Last && slices.Equal(a.Rows, b.Rows)
}

// isTick tells by numbers that have no sign whether that is a time.
func isTick(n int) bool { return uint(n) <= most }

// isNumber tells so whether that is a key, or an order's number.
func isNumber(n int) bool { return uint(n-1) < most }

func isKind(n int) bool { return uint(n-1) < 3 }

func isOut(x api.Out) bool {
	return isNumber(x.Key) && isKind(x.Kind) && isNumber(x.Order) && isTick(x.Due)
}

// isOutbox tells by counting unlike ones, and by putting keys in order, whether an outbox may be.
func isOutbox(b api.Outbox) bool {
	if uint(len(b.Rows)) > 96 || !isTick(b.Last) {
		return false
	}
	keys, of := map[int]int{}, map[[2]int]int{}
	var row []int
	for _, x := range b.Rows {
		if !isOut(x) || x.Key > b.Last {
			return false
		}
		keys[x.Key]++
		of[[2]int{x.Kind, x.Order}]++
		row = append(row, x.Key)
	}
	return len(of) == len(row) && slices.Equal(row, slices.Sorted(maps.Keys(keys)))
}

// The answers that calls must give: each by the words of its promise.

func putAnswer(b api.Outbox, kind, order, now int) (api.Outbox, int, api.Errno) {
	if !isOutbox(b) || !isKind(kind) || !isNumber(order) || !isTick(now) {
		return api.Outbox{}, 0, api.ErrArg
	}
	if _, e := findAnswer(b, kind, order); e == api.OK {
		return api.Outbox{}, 0, api.ErrTwice
	}
	if len(b.Rows) > 95 || b.Last > most-1 {
		return api.Outbox{}, 0, api.ErrFull
	}
	rows := append(slices.Clone(b.Rows), out(b.Last+1, kind, order, now))
	return api.Outbox{Last: b.Last + 1, Rows: rows}, b.Last + 1, api.OK
}

func doneAnswer(b api.Outbox, key int) (api.Outbox, api.Out, api.Errno) {
	if !isOutbox(b) {
		return api.Outbox{}, api.Out{}, api.ErrArg
	}
	got, rest := api.Out{}, api.Outbox{Last: b.Last}
	for _, x := range b.Rows {
		if x.Key == key {
			got = x
		} else {
			rest.Rows = append(rest.Rows, x)
		}
	}
	if len(rest.Rows) == len(b.Rows) {
		return api.Outbox{}, api.Out{}, api.ErrNone
	}
	return rest, got, api.OK
}

func findAnswer(b api.Outbox, kind, order int) (api.Out, api.Errno) {
	if !isOutbox(b) {
		return api.Out{}, api.ErrArg
	}
	for _, x := range b.Rows {
		if x == out(x.Key, kind, order, x.Due) {
			return x, api.OK
		}
	}
	return api.Out{}, api.ErrNone
}

func tellAnswer(b api.Outbox, now int) (api.Outbox, []api.Out, api.Errno) {
	if !isOutbox(b) || !isTick(now) {
		return api.Outbox{}, nil, api.ErrArg
	}
	later, told := api.Outbox{Last: b.Last}, []api.Out{}
	for _, x := range b.Rows {
		if x.Due > now {
			later.Rows = append(later.Rows, x)
			continue
		}
		told = append(told, x)
		again := now + 10
		if again > most {
			again = most
		}
		later.Rows = append(later.Rows, out(x.Key, x.Kind, x.Order, again))
	}
	return later, told, api.OK
}

// answered holds an outbox that is answered against what it must be.
func answered(t *testing.T, call string, b, got api.Outbox, e api.Errno, want api.Outbox, wantE api.Errno) {
	t.Helper()
	if e != wantE || !same(got, want) {
		t.Fatalf("%s of %v = %v, %d; want %v, %d", call, b, got, e, want, wantE)
	}
	if e == api.OK && !outbox.Right(got) {
		t.Fatalf("%s of %v = %v, which may not be", call, b, got)
	}
}

// put is Put's answer, held so.
func put(t *testing.T, b api.Outbox, kind, order, now int) (api.Outbox, int, api.Errno) {
	t.Helper()
	got, key, e := outbox.Put(b, kind, order, now)
	want, wantKey, wantE := putAnswer(b, kind, order, now)
	call := "Put " + strconv.Itoa(kind) + ", " + strconv.Itoa(order) + ", " + strconv.Itoa(now)
	answered(t, call, b, got, e, want, wantE)
	if key != wantKey {
		t.Fatalf("%s of %v: key %d; want %d", call, b, key, wantKey)
	}
	return got, key, e
}

// done is Done's answer, held so.
func done(t *testing.T, b api.Outbox, key int) (api.Outbox, api.Out, api.Errno) {
	t.Helper()
	got, x, e := outbox.Done(b, key)
	want, wantX, wantE := doneAnswer(b, key)
	answered(t, "Done "+strconv.Itoa(key), b, got, e, want, wantE)
	if x != wantX {
		t.Fatalf("Done %d of %v: %v; want %v", key, b, x, wantX)
	}
	return got, x, e
}

// found is Find's answer, held so.
func found(t *testing.T, b api.Outbox, kind, order int) (api.Out, api.Errno) {
	t.Helper()
	x, e := outbox.Find(b, kind, order)
	if want, wantE := findAnswer(b, kind, order); x != want || e != wantE {
		t.Fatalf("Find %d, %d of %v = %v, %d; want %v, %d", kind, order, b, x, e, want, wantE)
	}
	return x, e
}

// told is Tell's answer, held so.
func told(t *testing.T, b api.Outbox, now int) (api.Outbox, []api.Out, api.Errno) {
	t.Helper()
	got, l, e := outbox.Tell(b, now)
	want, wantL, wantE := tellAnswer(b, now)
	answered(t, "Tell "+strconv.Itoa(now), b, got, e, want, wantE)
	if !slices.Equal(l, wantL) {
		t.Fatalf("Tell %d of %v: %v; want %v", now, b, l, wantL)
	}
	return got, l, e
}

// each are all calls' answers of an outbox, and of a key, a kind, an order and a time, held so.
func each(t *testing.T, b api.Outbox, x api.Out) {
	t.Helper()
	if outbox.Right(b) != isOutbox(b) {
		t.Fatalf("Right(%v) = %v", b, outbox.Right(b))
	}
	put(t, b, x.Kind, x.Order, x.Due)
	done(t, b, x.Key)
	found(t, b, x.Kind, x.Order)
	told(t, b, x.Due)
}

// edges are numbers at and beside all bounds, and far from them.
func edges() []int {
	return []int{
		math.MinInt, math.MinInt + 1, -most, -11, -10, -1, 0, 1, 2, 3, 4, 9, 10, 11, 95, 96, 97,
		1 << 32, 1<<32 + 1, most - 11, most - 10, most - 9, most - 1, most, most + 1, 1 << 41, math.MaxInt - 10, math.MaxInt - 1, math.MaxInt,
	}
}

// numbers are all of a row's numbers.
func numbers(x *api.Out) []*int {
	return []*int{&x.Key, &x.Kind, &x.Order, &x.Due}
}

// besides are all that a row becomes if one of its numbers is another one.
func besides(x api.Out) []api.Out {
	var l []api.Out
	for i := range numbers(&x) {
		n := *numbers(&x)[i]
		for _, other := range append(edges(), n-1, n+1) {
			changed := x
			*numbers(&changed)[i] = other
			l = append(l, changed)
		}
	}
	return l
}

// outsThatMayNotBe are the edges of all of a row's numbers.
func outsThatMayNotBe() []api.Out {
	l := []api.Out{{}, out(-1, -1, -1, -1), out(most+1, 4, most+1, most+1), out(math.MinInt, math.MinInt, math.MinInt, math.MinInt)}
	for _, n := range []int{math.MinInt, -most, -1, 0, most + 1, math.MaxInt} {
		l = append(l, out(n, 1, 5000, 5), out(500, 1, n, 5))
		if n != 0 {
			l = append(l, out(500, 1, 5000, n))
		}
	}
	for _, n := range []int{math.MinInt, -1, 0, 4, 1 << 32, 1<<32 + 1, math.MaxInt} {
		l = append(l, out(500, n, 5000, 5))
	}
	return l
}

// many are so many rows, the same at each run, of keys that rise by 1 to 7, up to three of each order, many of them due at the same time.
func many(seed uint32, n int) []api.Out {
	l := make([]api.Out, n)
	key := 0
	for i := range l {
		seed = seed*1664525 + 1013904223
		key += 1 + int(seed>>16)%7
		l[i] = out(key, 1+(i+int(seed>>24))%3, 1+i/3, int(seed>>20)%50)
		if i%3 != 0 {
			l[i].Kind = 1 + (l[i-1].Kind)%3
		}
	}
	return l
}

// ofOneKind are so many rows, each of another order, all due at one time.
func ofOneKind(kind, n, due int) []api.Out {
	l := make([]api.Out, n)
	for i := range l {
		l[i] = out(i+1, kind, n-i, due)
	}
	return l
}

// boxesThatMayBe are some of all sizes, by names.
func boxesThatMayBe() map[string]api.Outbox {
	all := map[string]api.Outbox{
		"none":             {},
		"none, but keys":   {Last: 7},
		"none, all keys":   {Last: most},
		"none, one key":    {Last: most - 1},
		"an empty list":    {Rows: []api.Out{}},
		"the least":        box(out(1, 1, 1, 0)),
		"the greatest":     box(out(most, 3, most, most)),
		"two kinds":        box(out(1, 1, 1, 5), out(2, 2, 1, 5)),
		"two orders":       box(out(1, 1, 1, 5), out(2, 1, 2, 5)),
		"three kinds":      box(out(3, 3, 9, 0), out(5, 1, 9, 10), out(most, 2, 9, most)),
		"keys behind":      {Last: 50, Rows: []api.Out{out(3, 1, 2, 9), out(17, 1, 1, 4), out(18, 2, 2, 30)}},
		"all keys behind":  {Last: most, Rows: []api.Out{out(3, 1, 2, most), out(17, 1, 1, most-10), out(18, 2, 2, most-11)}},
		"later ones first": box(out(1, 3, 3, 90), out(2, 2, 2, 60), out(3, 1, 1, 30), out(4, 3, 1, 0)),
		"95":               box(many(1, 95)...),
		"96":               box(many(2, 96)...),
		"96, keys behind":  {Last: 1000, Rows: many(3, 96)},
		"96, of one kind":  box(ofOneKind(2, 96, 20)...),
		"95, all keys":     {Last: most, Rows: many(4, 95)},
	}
	for n := 5; n < 95; n += 30 {
		all[strconv.Itoa(n)] = box(many(uint32(n), n)...)
	}
	return all
}

// boxesThatMayNotBe are some, by what is amiss.
func boxesThatMayNotBe() map[string]api.Outbox {
	all := map[string]api.Outbox{
		"97":                  box(many(5, 97)...),
		"97, of one kind":     box(ofOneKind(1, 97, 0)...),
		"192":                 box(many(6, 192)...),
		"97 of zeros":         {Last: 5, Rows: make([]api.Out, 97)},
		"the same, often":     {Last: 5, Rows: slices.Repeat([]api.Out{out(1, 1, 1, 1)}, 1000)},
		"twice the same":      box(out(1, 1, 1, 1), out(1, 1, 1, 1)),
		"a key twice":         box(out(1, 1, 1, 1), out(1, 2, 1, 1)),
		"keys turned":         {Last: 2, Rows: []api.Out{out(2, 1, 1, 1), out(1, 2, 1, 1)}},
		"last ones turned":    {Last: 9, Rows: []api.Out{out(1, 1, 1, 1), out(3, 2, 1, 1), out(2, 3, 1, 1)}},
		"one of kind, order":  box(out(1, 1, 1, 1), out(2, 1, 1, 1)),
		"one of them, far":    box(out(1, 2, 7, 1), out(2, 1, 1, 1), out(3, 3, 7, 1), out(4, 2, 7, 9)),
		"a key above Last":    {Last: 4, Rows: []api.Out{out(1, 1, 1, 1), out(5, 2, 1, 1)}},
		"keys, and Last of 0": {Rows: []api.Out{out(1, 1, 1, 1)}},
	}
	for _, last := range []int{math.MinInt, -most, -1, most + 1, 1 << 41, math.MaxInt} {
		all["none, Last "+strconv.Itoa(last)] = api.Outbox{Last: last}
		all["one, Last "+strconv.Itoa(last)] = api.Outbox{Last: last, Rows: []api.Out{out(1, 1, 1, 1)}}
	}
	for i, x := range outsThatMayNotBe() {
		name := strconv.Itoa(i)
		all["one alone, "+name] = api.Outbox{Last: most, Rows: []api.Out{x}}
		all["one ahead, "+name] = api.Outbox{Last: most, Rows: []api.Out{x, out(600, 2, 2, 5), out(700, 2, 3, 5)}}
		all["one between, "+name] = api.Outbox{Last: most, Rows: []api.Out{out(400, 2, 2, 5), x, out(600, 2, 3, 5)}}
		all["one behind, "+name] = api.Outbox{Last: most, Rows: []api.Out{out(300, 2, 2, 5), out(400, 2, 3, 5), x}}
		all["one of 96, "+name] = api.Outbox{Last: most, Rows: append(many(7, 95), x)}
	}
	return all
}

// rows are all rows of up to so many, out of those.
func rows[T any](of []T, upTo int) [][]T {
	all, last := [][]T{nil}, [][]T{nil}
	for range upTo {
		var next [][]T
		for _, l := range last {
			for _, x := range of {
				next = append(next, append(slices.Clone(l), x))
			}
		}
		all, last = append(all, next...), next
	}
	return all
}
