package stock_test

import (
	"maps"
	"math"
	"slices"
	"strconv"
	"strings"
	"testing"

	"tarry/api"
	"tarry/stock"
)

const most = 1 << 30 // units

const letters = "abcdefghijklmnopqrstuvwxyz0123456789"

// The places of a row's numbers, as they are told here: a row of five of them.
const (
	in = iota
	free
	held
	shipped
	lost
)

func numbers(r api.Row) [5]int {
	return [5]int{in: r.In, free: r.Free, held: r.Held, shipped: r.Shipped, lost: r.Lost}
}

func row(sku string, n [5]int) api.Row {
	return api.Row{Sku: sku, In: n[in], Free: n[free], Held: n[held], Shipped: n[shipped], Lost: n[lost]}
}

// some is a row of what is free, held, shipped and lost, and of what came in, which is all that.
func some(sku string, free, held, shipped, lost int) api.Row {
	return row(sku, [5]int{free + held + shipped + lost, free, held, shipped, lost})
}

// isName tells by what is left of it without small letters and digits whether a text is a name.
func isName(s string) bool {
	return strings.Trim(s, letters) == "" && s != "" && len(s) < 17
}

// isRow tells by taking away from what came in whether a row may be.
func isRow(r api.Row) bool {
	parts := numbers(r)
	for _, n := range parts {
		if uint64(n) > most {
			return false
		}
	}
	left := r.In
	for _, n := range parts[free:] {
		left -= n
	}
	return left == 0 && isName(r.Sku)
}

// isStock tells by names put into order, each once, whether stock may be.
func isStock(l []api.Row) bool {
	var names []string
	for _, r := range l {
		if !isRow(r) {
			return false
		}
		names = append(names, r.Sku)
	}
	return len(l) < 9 && slices.Equal(names, slices.Compact(slices.Sorted(slices.Values(names))))
}

func places(l []api.Row) map[string][5]int {
	all := map[string][5]int{}
	for _, r := range l {
		all[r.Sku] = numbers(r)
	}
	return all
}

// listed is a row of rows, in order.
func listed(all map[string][5]int) []api.Row {
	var l []api.Row
	for _, sku := range slices.Sorted(maps.Keys(all)) {
		l = append(l, row(sku, all[sku]))
	}
	return l
}

// call is one of those that have units go, and where from and to.
type call struct {
	name     string
	do       func(l []api.Row, sku string, n int) ([]api.Row, api.Errno)
	from, to int
}

func moves() []call {
	return []call{
		{"Hold", stock.Hold, free, held},
		{"Release", stock.Release, held, free},
		{"Ship", stock.Ship, held, shipped},
		{"Lose", stock.Lose, free, lost},
	}
}

// moveAnswer is what one of them must answer.
func moveAnswer(c call, l []api.Row, sku string, n int) ([]api.Row, api.Errno) {
	if !isStock(l) || n < 1 || n > most {
		return nil, api.ErrArg
	}
	all := places(l)
	r, ok := all[sku]
	if !ok {
		return nil, api.ErrNone
	}
	if r[c.from] < n {
		return nil, api.ErrLack
	}
	r[c.from] -= n
	r[c.to] += n
	all[sku] = r
	return listed(all), api.OK
}

// receiveAnswer is what Receive must answer.
func receiveAnswer(l []api.Row, sku string, n int) ([]api.Row, api.Errno) {
	if !isStock(l) || n < 1 || n > most || !isName(sku) {
		return nil, api.ErrArg
	}
	all := places(l)
	r, ok := all[sku]
	if !ok && len(l) == 8 {
		return nil, api.ErrFull
	}
	if r[in]+n > most {
		return nil, api.ErrOver
	}
	r[in] += n
	r[free] += n
	all[sku] = r
	return listed(all), api.OK
}

// moved is a call's answer, held against what it must be.
func moved(t *testing.T, c call, l []api.Row, sku string, n int) ([]api.Row, api.Errno) {
	t.Helper()
	got, e := c.do(l, sku, n)
	if want, wantE := moveAnswer(c, l, sku, n); e != wantE || !slices.Equal(got, want) {
		t.Fatalf("%s(%v, %q, %d) = %v, %d; want %v, %d", c.name, l, sku, n, got, e, want, wantE)
	}
	if e == api.OK && !stock.Right(got) {
		t.Fatalf("%s(%v, %q, %d) = %v, which may not be", c.name, l, sku, n, got)
	}
	return got, e
}

// received is Receive's answer, held so.
func received(t *testing.T, l []api.Row, sku string, n int) ([]api.Row, api.Errno) {
	t.Helper()
	got, e := stock.Receive(l, sku, n)
	if want, wantE := receiveAnswer(l, sku, n); e != wantE || !slices.Equal(got, want) {
		t.Fatalf("Receive(%v, %q, %d) = %v, %d; want %v, %d", l, sku, n, got, e, want, wantE)
	}
	if e == api.OK && !stock.Right(got) {
		t.Fatalf("Receive(%v, %q, %d) = %v, which may not be", l, sku, n, got)
	}
	return got, e
}

// found is Get's answer, held so.
func found(t *testing.T, l []api.Row, sku string) (api.Row, api.Errno) {
	t.Helper()
	var want api.Row
	wantE := api.ErrNone
	if !isStock(l) {
		wantE = api.ErrArg
	} else if r, ok := places(l)[sku]; ok {
		want, wantE = row(sku, r), api.OK
	}
	got, e := stock.Get(l, sku)
	if got != want || e != wantE {
		t.Fatalf("Get(%v, %q) = %v, %d; want %v, %d", l, sku, got, e, want, wantE)
	}
	return got, e
}

// each are all calls' answers of stock, a text and a number, held so.
func each(t *testing.T, l []api.Row, sku string, n int) {
	t.Helper()
	if stock.Right(l) != isStock(l) {
		t.Fatalf("Right(%v) = %v", l, stock.Right(l))
	}
	found(t, l, sku)
	received(t, l, sku, n)
	for _, c := range moves() {
		moved(t, c, l, sku, n)
	}
}

// rows are all rows of up to so many, out of those.
func rows[T any](of []T, upTo int) [][]T {
	all, last := [][]T{nil}, [][]T{nil}
	for range upTo {
		var next [][]T
		for _, l := range last {
			for _, x := range of {
				next = append(next, append(slices.Clone(l), x))
			}
		}
		all, last = append(all, next...), next
	}
	return all
}

// eight are names, in order, with the longest and the shortest among them.
func eight() []string {
	return []string{"0", "00", "9", "a", "aa", "abcdefghijklmnop", "b", "z"}
}

// full is stock that can have no more rows, each with other numbers.
func full() []api.Row {
	var l []api.Row
	for i, sku := range eight() {
		l = append(l, some(sku, 10*i+4, 10*i+3, 10*i+2, 10*i+1))
	}
	return l
}

// stockThatMayBe is such, by what it is.
func stockThatMayBe() map[string][]api.Row {
	return map[string][]api.Row{
		"none":                nil,
		"an empty list":       {},
		"a row of zeros":      {{Sku: "cup"}},
		"a row":               {some("cup", 3, 2, 1, 4)},
		"all free":            {some("cup", most, 0, 0, 0)},
		"all held":            {some("cup", 0, most, 0, 0)},
		"all shipped":         {some("cup", 0, 0, most, 0)},
		"all lost":            {some("cup", 0, 0, 0, most)},
		"one of each, and":    {some("cup", 1, 1, 1, most-3)},
		"quarters":            {some("cup", most/4, most/4, most/4, most/4)},
		"one less":            {some("cup", most-1, 0, 0, 0)},
		"the greatest of two": {some("cup", most, 0, 0, 0), some("mug", 0, most, 0, 0)},
		"one ahead of longer": {some("a", 1, 0, 0, 0), some("a0", 0, 1, 0, 0), some("aa", 0, 0, 1, 0), some("b", 0, 0, 0, 1)},
		"seven, no first":     full()[1:],
		"seven, no last":      full()[:7],
		"seven, none between": slices.Delete(full(), 3, 4),
		"full":                full(),
	}
}

// namesThatMayNotBe are texts that are no names.
func namesThatMayNotBe() []string {
	l := []string{"", "abcdefghijklmnopq", strings.Repeat("0", 17), strings.Repeat("a", 32), strings.Repeat("a", 4096), strings.Repeat("a", 1<<16)}
	l = append(l, "ä", "a\xff", "A", "aB", "a b", " a", "a ", "a\n", "\x00", "a\x00", "a-b", "a_", "é", "１", "K")
	return append(l, "0123456789abcde\x00", "{bcdefghijklmnop", "`", "/", ":")
}

// unitsThatMayNotBe are numbers that no n may be.
func unitsThatMayNotBe() []int {
	return []int{0, -1, -2, -most, -most - 1, most + 1, most + 2, 1 << 31, 1<<32 + 1, 1 << 62, 1<<62 + 1, math.MaxInt, math.MaxInt - 1, math.MinInt, math.MinInt + 1}
}

// stockThatMayNotBe is such, by what is amiss.
func stockThatMayNotBe() map[string][]api.Row {
	all := map[string][]api.Row{
		"nine rows":             append(full(), some("zz", 1, 0, 0, 0)),
		"nine rows of zeros":    append(full()[:8], api.Row{Sku: "zz"}),
		"a thousand rows":       slices.Repeat([]api.Row{some("a", 1, 0, 0, 0)}, 1000),
		"names from behind":     {some("b", 1, 0, 0, 0), some("a", 1, 0, 0, 0)},
		"a longer one first":    {some("aa", 1, 0, 0, 0), some("a", 1, 0, 0, 0)},
		"letters ahead of 0":    {some("a", 1, 0, 0, 0), some("0", 1, 0, 0, 0)},
		"twice the same":        {some("a", 1, 0, 0, 0), some("a", 1, 0, 0, 0)},
		"twice the same, last":  {some("a", 1, 0, 0, 0), some("b", 1, 0, 0, 0), some("c", 1, 0, 0, 0), some("c", 0, 1, 0, 0)},
		"a row of no name":      {{}},
		"one too many came in":  {{Sku: "a", In: 11, Free: 4, Held: 3, Shipped: 2, Lost: 1}},
		"one too few came in":   {{Sku: "a", In: 9, Free: 4, Held: 3, Shipped: 2, Lost: 1}},
		"more than came in":     {{Sku: "a", In: most, Free: most, Held: 1}},
		"above 2^30":            {some("a", most+1, 0, 0, 0)},
		"above 2^30, all":       {some("a", most, most, most, most)},
		"above 2^30, in parts":  {some("a", most, 0, 0, 1)},
		"below 0":               {some("a", 2, -1, 0, 0)},
		"below 0, In":           {some("a", 0, -1, 0, 0)},
		"round to 0":            {{Sku: "a", Free: math.MaxInt, Held: math.MaxInt, Shipped: 2}},
		"round to 0, by halves": {{Sku: "a", Free: math.MinInt, Lost: math.MinInt}},
		"round to 2^30":         {{Sku: "a", In: most, Free: 1 << 62, Held: 1 << 62, Shipped: 1 << 62, Lost: 1<<62 + most}},
		"2^32 less":             {{Sku: "a", In: 1, Free: 1 << 32, Held: 1 - 1<<32}},
	}
	for i, s := range namesThatMayNotBe() {
		all["no name alone, "+strconv.Itoa(i)] = []api.Row{some(s, 1, 0, 0, 0)}
		l := []api.Row{some("a", 1, 0, 0, 0), some("b", 1, 0, 0, 0), some(s, 1, 0, 0, 0)}
		slices.SortFunc(l, func(a, b api.Row) int { return strings.Compare(a.Sku, b.Sku) })
		all["no name, in order, "+strconv.Itoa(i)] = l
	}
	for at := range 8 {
		l := full()
		l[at].In++
		all["one amiss, at "+strconv.Itoa(at)] = l
	}
	return all
}
