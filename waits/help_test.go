package waits_test

import (
	"cmp"
	"math"
	"slices"
	"strconv"
	"strings"
	"testing"

	"tarry/api"
	"tarry/waits"
)

const most = 1 << 40 // of a Seq, and of an Order

const letters = "abcdefghijklmnopqrstuvwxyz0123456789"

func line(sku string, class, seq, order int) api.Line {
	return api.Line{Sku: sku, Wait: api.Wait{Class: class, Seq: seq, Order: order}}
}

// isLine tells by what is left of its name without small letters and digits, and by numbers that have no sign, whether a line may be.
func isLine(x api.Line) bool {
	name := strings.Trim(x.Sku, letters) == "" && x.Sku != "" && len(x.Sku) < 17
	return name && uint(x.Wait.Class) < 4 && uint(x.Wait.Seq-1) < most && uint(x.Wait.Order-1) < most
}

// areLines tells by counting unlike orders and Seqs whether lines may be.
func areLines(l []api.Line) bool {
	orders, seqs := map[int]int{}, map[int]int{}
	for _, x := range l {
		if !isLine(x) {
			return false
		}
		orders[x.Wait.Order]++
		seqs[x.Wait.Seq]++
	}
	return len(l) < 33 && len(orders) == len(l) && len(seqs) == len(l)
}

// key is a text for each line that may be, and these texts stand as the lines do: a space is below all that is in a name, and all numbers have as many digits.
func key(x api.Line) string {
	return x.Sku + " " + strconv.Itoa(x.Wait.Class) + strconv.Itoa(2*most+x.Wait.Seq) + strconv.Itoa(2*most+x.Wait.Order)
}

// inOrder are lines that may be, as they stand.
func inOrder(l []api.Line) []api.Line {
	return slices.SortedFunc(slices.Values(l), func(a, b api.Line) int { return cmp.Compare(key(a), key(b)) })
}

func isIndex(l []api.Line) bool {
	return areLines(l) && slices.Equal(l, inOrder(l))
}

// others are the lines of all orders but one.
func others(l []api.Line, order int) []api.Line {
	var all []api.Line
	for _, x := range l {
		if x.Wait.Order != order {
			all = append(all, x)
		}
	}
	return all
}

// The answers that calls must give: each by the words of its promise.

func makeAnswer(l []api.Line) ([]api.Line, api.Errno) {
	if !areLines(l) {
		return nil, api.ErrArg
	}
	return inOrder(l), api.OK
}

func putAnswer(l []api.Line, x api.Line) ([]api.Line, api.Errno) {
	if !isIndex(l) || !isLine(x) {
		return nil, api.ErrArg
	}
	for _, other := range l {
		if other.Wait.Order == x.Wait.Order || other.Wait.Seq == x.Wait.Seq {
			return nil, api.ErrTwice
		}
	}
	if len(l) == 32 {
		return nil, api.ErrFull
	}
	return inOrder(append(slices.Clone(l), x)), api.OK
}

func findAnswer(l []api.Line, order int) (api.Line, api.Errno) {
	if !isIndex(l) {
		return api.Line{}, api.ErrArg
	}
	for _, x := range l {
		if x.Wait.Order == order {
			return x, api.OK
		}
	}
	return api.Line{}, api.ErrNone
}

func dropAnswer(l []api.Line, order int) ([]api.Line, api.Errno) {
	if _, e := findAnswer(l, order); e != api.OK {
		return nil, e
	}
	return others(l, order), api.OK
}

func moveAnswer(l []api.Line, order, class int) ([]api.Line, api.Errno) {
	x, e := findAnswer(l, order)
	if uint(class) > 3 {
		return nil, api.ErrArg
	}
	if e != api.OK {
		return nil, e
	}
	x.Wait.Class = class
	return inOrder(append(others(l, order), x)), api.OK
}

func ofAnswer(l []api.Line, sku string) ([]api.Wait, api.Errno) {
	if !isIndex(l) {
		return nil, api.ErrArg
	}
	var all []api.Wait
	for _, x := range l {
		if x.Sku == sku {
			all = append(all, x.Wait)
		}
	}
	return all, api.OK
}

// answered holds an answer that is an index against what it must be.
func answered(t *testing.T, call string, got []api.Line, e api.Errno, want []api.Line, wantE api.Errno) {
	t.Helper()
	if e != wantE || !slices.Equal(got, want) {
		t.Fatalf("%s = %v, %d; want %v, %d", call, got, e, want, wantE)
	}
	if e == api.OK && !waits.Right(got) {
		t.Fatalf("%s = %v, which is no index", call, got)
	}
}

// made is Make's answer, held so.
func made(t *testing.T, l []api.Line) ([]api.Line, api.Errno) {
	t.Helper()
	got, e := waits.Make(l)
	want, wantE := makeAnswer(l)
	answered(t, "Make", got, e, want, wantE)
	return got, e
}

// put is Put's answer, held so.
func put(t *testing.T, l []api.Line, x api.Line) ([]api.Line, api.Errno) {
	t.Helper()
	got, e := waits.Put(l, x)
	want, wantE := putAnswer(l, x)
	answered(t, "Put", got, e, want, wantE)
	return got, e
}

// dropped is Drop's answer, held so.
func dropped(t *testing.T, l []api.Line, order int) ([]api.Line, api.Errno) {
	t.Helper()
	got, e := waits.Drop(l, order)
	want, wantE := dropAnswer(l, order)
	answered(t, "Drop of "+strconv.Itoa(order), got, e, want, wantE)
	return got, e
}

// moved is Move's answer, held so.
func moved(t *testing.T, l []api.Line, order, class int) ([]api.Line, api.Errno) {
	t.Helper()
	got, e := waits.Move(l, order, class)
	want, wantE := moveAnswer(l, order, class)
	answered(t, "Move of "+strconv.Itoa(order)+" to "+strconv.Itoa(class), got, e, want, wantE)
	return got, e
}

// found is Find's answer, held so.
func found(t *testing.T, l []api.Line, order int) (api.Line, api.Errno) {
	t.Helper()
	got, e := waits.Find(l, order)
	if want, wantE := findAnswer(l, order); got != want || e != wantE {
		t.Fatalf("Find(%v, %d) = %v, %d; want %v, %d", l, order, got, e, want, wantE)
	}
	return got, e
}

// of is Of's answer, held so.
func of(t *testing.T, l []api.Line, sku string) ([]api.Wait, api.Errno) {
	t.Helper()
	got, e := waits.Of(l, sku)
	if want, wantE := ofAnswer(l, sku); e != wantE || !slices.Equal(got, want) {
		t.Fatalf("Of(%v, %q) = %v, %d; want %v, %d", l, sku, got, e, want, wantE)
	}
	return got, e
}

// each are all calls' answers of lines, and of a line's name, order and class, held so.
func each(t *testing.T, l []api.Line, x api.Line) {
	t.Helper()
	if waits.Right(l) != isIndex(l) {
		t.Fatalf("Right(%v) = %v", l, waits.Right(l))
	}
	made(t, l)
	put(t, l, x)
	dropped(t, l, x.Wait.Order)
	moved(t, l, x.Wait.Order, x.Wait.Class)
	found(t, l, x.Wait.Order)
	of(t, l, x.Sku)
}

// rows are all rows of up to so many, out of those.
func rows[T any](of []T, upTo int) [][]T {
	all, last := [][]T{nil}, [][]T{nil}
	for range upTo {
		var next [][]T
		for _, l := range last {
			for _, x := range of {
				next = append(next, append(slices.Clone(l), x))
			}
		}
		all, last = append(all, next...), next
	}
	return all
}

// orders are all orders of so few lines.
func orders(l []api.Line) [][]api.Line {
	if len(l) == 0 {
		return [][]api.Line{nil}
	}
	var all [][]api.Line
	for i, x := range l {
		for _, rest := range orders(slices.Delete(slices.Clone(l), i, i+1)) {
			all = append(all, append(rest, x))
		}
	}
	return all
}

// names are eight, in order, with the longest and the shortest among them, and such as begin with others.
func names() []string {
	return []string{"0", "00", "9", "a", "aa", "abcdefghijklmnop", "b", "z"}
}

// many are so many lines in no order, the same at each run, with some of the first names.
func many(seed uint32, n, skus int) []api.Line {
	next := func(below int) int {
		seed = seed*1664525 + 1013904223
		return int(seed>>16) % below
	}
	l := make([]api.Line, n)
	for i := range l {
		l[i] = line(names()[next(skus)], next(4), 7*i+1+next(7), 9*(n-i)+next(9))
	}
	return shuffled(seed, l)
}

// shuffled are the same lines in another order, by the seed.
func shuffled(seed uint32, l []api.Line) []api.Line {
	all := slices.Clone(l)
	for i := len(all) - 1; i > 0; i-- {
		seed = seed*1664525 + 1013904223
		k := int(seed>>8) % (i + 1)
		all[i], all[k] = all[k], all[i]
	}
	return all
}

// full is an index that can have no more lines.
func full() []api.Line { return inOrder(many(1, 32, 8)) }

// linesThatMayBe may be, by what they are; most of them are no index.
func linesThatMayBe() map[string][]api.Line {
	all := map[string][]api.Line{
		"none":            nil,
		"an empty list":   {},
		"the least":       {line("0", 0, 1, 1)},
		"the greatest":    {line("zzzzzzzzzzzzzzzz", 3, most, most)},
		"both, in order":  {line("0", 0, 1, 1), line("zzzzzzzzzzzzzzzz", 3, most, most)},
		"both, turned":    {line("zzzzzzzzzzzzzzzz", 3, most, most), line("0", 0, 1, 1)},
		"classes":         {line("a", 0, 4, 4), line("a", 1, 3, 3), line("a", 2, 2, 2), line("a", 3, 1, 1)},
		"Seqs":            {line("a", 1, 1, 9), line("a", 1, 2, 8), line("a", 1, most-1, 7), line("a", 1, most, 6)},
		"by their orders": {line("a", 1, 9, 1), line("a", 1, 8, 2), line("a", 1, 7, 3)},
		"names of bytes":  {line("0", 3, 5, 1), line("00", 2, 4, 2), line("a", 1, 3, 3), line("aa", 0, 2, 4), line("b", 0, 1, 5)},
		"longer first":    {line("aa", 0, 1, 1), line("a", 3, 2, 2)},
		"0 behind a":      {line("a", 0, 1, 1), line("0", 3, 2, 2)},
		"amid others":     {line("a", 1, 1, 1), line("b", 1, 2, 2), line("a", 1, 3, 3)},
		"full":            full(),
		"full, one name":  many(2, 32, 1),
		"full, two names": many(3, 32, 2),
		"full, turned":    turned(full()),
		"all but one":     full()[:31],
	}
	for n := range 33 {
		l := many(uint32(n)+9, n, 3)
		all["many, "+strconv.Itoa(n)] = l
		all["many, in order, "+strconv.Itoa(n)] = inOrder(l)
	}
	return all
}

// indexes are lines in order: all that may be.
func indexes() map[string][]api.Line {
	all := map[string][]api.Line{}
	for name, l := range linesThatMayBe() {
		all[name] = inOrder(l)
	}
	return all
}

// turned are lines from behind.
func turned(l []api.Line) []api.Line {
	all := slices.Clone(l)
	slices.Reverse(all)
	return all
}

// namesThatMayNotBe are texts that are no names.
func namesThatMayNotBe() []string {
	l := []string{"", "abcdefghijklmnopq", strings.Repeat("0", 17), strings.Repeat("a", 4096), strings.Repeat("a", 1<<16)}
	l = append(l, "ä", "a\xff", "A", "aB", "a b", " a", "a ", "a\n", "\x00", "a\x00", "a-b", "é", "１")
	return append(l, "0123456789abcde\x00", "{bcdefghijklmnop", "`", "/", ":")
}

// linesThatMayNotBe are such by themselves: each has one field behind an edge, or all.
func linesThatMayNotBe() []api.Line {
	l := []api.Line{{}, line("", 4, 0, 0), line("a b", -1, most+1, most+1)}
	for _, s := range namesThatMayNotBe() {
		l = append(l, line(s, 1, 5000, 5000))
	}
	for _, class := range []int{-1, 4, 5, -4, 256, 1 << 32, math.MaxInt, math.MinInt} {
		l = append(l, line("a", class, 5000, 5000))
	}
	for _, n := range []int{0, -1, most + 1, -most, 1 << 41, 1<<62 + 1, math.MaxInt, math.MinInt} {
		l = append(l, line("a", 1, n, 5000), line("a", 1, 5000, n))
	}
	return l
}

// rowsThatMayNotBe may not be in whatever order, by what is amiss.
func rowsThatMayNotBe() map[string][]api.Line {
	twice := line("a", 1, 1, 1)
	all := map[string][]api.Line{
		"33":                        inOrder(many(4, 33, 8)),
		"33, one name":              inOrder(many(4, 33, 1)),
		"64":                        inOrder(many(4, 64, 8)),
		"a thousand, the same":      slices.Repeat([]api.Line{twice}, 1000),
		"33 of zeros":               make([]api.Line, 33),
		"twice the same":            {twice, twice},
		"an order twice":            {line("a", 1, 1, 1), line("a", 1, 2, 1)},
		"an order twice, classes":   {line("a", 0, 2, 1), line("a", 1, 1, 1)},
		"an order twice, names":     {line("a", 1, 1, 1), line("b", 1, 2, 1)},
		"a Seq twice":               {line("a", 1, 1, 1), line("a", 1, 1, 2)},
		"a Seq twice, classes":      {line("a", 0, 1, 2), line("a", 1, 1, 1)},
		"a Seq twice, names":        {line("a", 1, 1, 1), line("b", 1, 1, 2)},
		"an order twice, far apart": {line("a", 1, 1, 1), line("b", 1, 2, 2), line("c", 1, 3, 3), line("d", 1, 4, 1)},
		"a Seq twice, far apart":    {line("a", 1, 1, 1), line("b", 1, 2, 2), line("c", 1, 3, 3), line("d", 1, 1, 4)},
	}
	for i, x := range linesThatMayNotBe() {
		name := strconv.Itoa(i)
		all["one alone, "+name] = []api.Line{x}
		all["one ahead, "+name] = []api.Line{x, line("a", 2, 2, 2), line("b", 2, 3, 3)}
		all["one between, "+name] = []api.Line{line("a", 0, 2, 2), x, line("b", 3, 3, 3)}
		all["one behind, "+name] = []api.Line{line("0", 0, 2, 2), line("a", 0, 3, 3), x}
		all["one of 32, "+name] = append(inOrder(many(6, 31, 8)), x)
	}
	return all
}
