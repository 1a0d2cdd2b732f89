package goods_test

import (
	"math"
	"slices"
	"strconv"
	"strings"
	"testing"

	"tarry/api"
	"tarry/goods"
)

const most = 1 << 30 // units

const letters = "abcdefghijklmnopqrstuvwxyz0123456789"

// isName tells by what is left of it without small letters and digits whether a text is a name.
func isName(s string) bool {
	return strings.Trim(s, letters) == "" && s != "" && len(s) < 17
}

func isRule(s api.Sub) bool {
	return isName(s.From) && isName(s.To) && s.From != s.To &&
		slices.Contains([]int{1, 2, 3, 4, 5, 6, 7, 8, 9}, s.Rank) && max(s.Num, s.Den) < 101 && min(s.Num, s.Den) > 0
}

// areGoods tells by texts that tell them apart, put into order, whether goods may be.
func areGoods(g api.Goods) bool {
	if len(g.Skus) > 8 || len(g.Subs) > 16 || !inOrderOnce(g.Skus) {
		return false
	}
	var places, pairs []string
	for _, s := range g.Subs {
		if !isRule(s) || !slices.Contains(g.Skus, s.From) || !slices.Contains(g.Skus, s.To) {
			return false
		}
		places = append(places, s.From+"/"+strconv.Itoa(s.Rank))
		pairs = append(pairs, s.From+"/"+s.To)
	}
	slices.Sort(pairs)
	return !slices.ContainsFunc(g.Skus, func(s string) bool { return !isName(s) }) && inOrderOnce(places) && inOrderOnce(pairs)
}

// inOrderOnce tells whether texts are as they are in order, each once.
func inOrderOnce(l []string) bool {
	return slices.Equal(l, slices.Compact(slices.Sorted(slices.Values(l))))
}

func same(a, b api.Goods) bool {
	return slices.Equal(a.Skus, b.Skus) && slices.Equal(a.Subs, b.Subs)
}

func isZero(g api.Goods) bool { return len(g.Skus) == 0 && len(g.Subs) == 0 }

// withSku are goods with one more name.
func withSku(g api.Goods, sku string) api.Goods {
	return api.Goods{Skus: slices.Sorted(slices.Values(append(slices.Clone(g.Skus), sku))), Subs: g.Subs}
}

// withRule are goods with one more rule: of all places the one at which they may be.
func withRule(g api.Goods, s api.Sub) api.Goods {
	for at := range len(g.Subs) + 1 {
		with := api.Goods{Skus: g.Skus, Subs: slices.Insert(slices.Clone(g.Subs), at, s)}
		if areGoods(with) {
			return with
		}
	}
	panic("there is no place for it")
}

// knowAnswer is what Know must answer.
func knowAnswer(g api.Goods, sku string) (api.Goods, api.Errno) {
	switch {
	case !areGoods(g) || !isName(sku):
		return api.Goods{}, api.ErrArg
	case slices.Contains(g.Skus, sku):
		return api.Goods{}, api.ErrTwice
	case len(g.Skus) == 8:
		return api.Goods{}, api.ErrFull
	}
	return withSku(g, sku), api.OK
}

// ruleAnswer is what Rule must answer.
func ruleAnswer(g api.Goods, s api.Sub) (api.Goods, api.Errno) {
	if !areGoods(g) || !isRule(s) {
		return api.Goods{}, api.ErrArg
	}
	if !slices.Contains(g.Skus, s.From) || !slices.Contains(g.Skus, s.To) {
		return api.Goods{}, api.ErrNone
	}
	for _, other := range g.Subs {
		if other.From == s.From && (other.Rank == s.Rank || other.To == s.To) {
			return api.Goods{}, api.ErrTwice
		}
	}
	if len(g.Subs) == 16 {
		return api.Goods{}, api.ErrFull
	}
	return withRule(g, s), api.OK
}

// known is Know's answer, held against what it must be.
func known(t *testing.T, g api.Goods, sku string) (api.Goods, api.Errno) {
	t.Helper()
	got, e := goods.Know(g, sku)
	if want, wantE := knowAnswer(g, sku); e != wantE || !same(got, want) {
		t.Fatalf("Know(%v, %q) = %v, %d; want %v, %d", g, sku, got, e, want, wantE)
	}
	if e == api.OK && !goods.Right(got) {
		t.Fatalf("Know(%v, %q) = %v, which may not be", g, sku, got)
	}
	return got, e
}

// ruled is Rule's answer, held so.
func ruled(t *testing.T, g api.Goods, s api.Sub) (api.Goods, api.Errno) {
	t.Helper()
	got, e := goods.Rule(g, s)
	if want, wantE := ruleAnswer(g, s); e != wantE || !same(got, want) {
		t.Fatalf("Rule(%v, %v) = %v, %d; want %v, %d", g, s, got, e, want, wantE)
	}
	if e == api.OK && !goods.Right(got) {
		t.Fatalf("Rule(%v, %v) = %v, which may not be", g, s, got)
	}
	return got, e
}

// found is For's answer, held so.
func found(t *testing.T, g api.Goods, sku string) ([]api.Sub, api.Errno) {
	t.Helper()
	var want []api.Sub
	wantE := api.OK
	switch {
	case !areGoods(g):
		wantE = api.ErrArg
	case !slices.Contains(g.Skus, sku):
		wantE = api.ErrNone
	default:
		want = slices.DeleteFunc(slices.Clone(g.Subs), func(s api.Sub) bool { return s.From != sku })
	}
	got, e := goods.For(g, sku)
	if e != wantE || !slices.Equal(got, want) {
		t.Fatalf("For(%v, %q) = %v, %d; want %v, %d", g, sku, got, e, want, wantE)
	}
	return got, e
}

// needed is Units' answer, held so: as many are enough, and one less is not.
func needed(t *testing.T, s api.Sub, n int) (int, api.Errno) {
	t.Helper()
	got, e := goods.Units(s, n)
	switch {
	case !isRule(s) || n < 1 || n > most:
		if got != 0 || e != api.ErrArg {
			t.Fatalf("Units(%v, %d) = %d, %d; want ErrArg", s, n, got, e)
		}
	case n*s.Num > most*s.Den:
		if got != 0 || e != api.ErrOver {
			t.Fatalf("Units(%v, %d) = %d, %d; want ErrOver", s, n, got, e)
		}
	case e != api.OK || got*s.Den < n*s.Num || (got-1)*s.Den >= n*s.Num:
		t.Fatalf("Units(%v, %d) = %d, %d", s, n, got, e)
	}
	return got, e
}

// orders are all orders of so few.
func orders[T any](l []T) [][]T {
	if len(l) == 0 {
		return [][]T{nil}
	}
	var all [][]T
	for i, x := range l {
		for _, others := range orders(slices.Delete(slices.Clone(l), i, i+1)) {
			all = append(all, append(others, x))
		}
	}
	return all
}

// rows are all rows of up to so many, out of those.
func rows[T any](of []T, upTo int) [][]T {
	all, last := [][]T{nil}, [][]T{nil}
	for range upTo {
		var next [][]T
		for _, l := range last {
			for _, x := range of {
				next = append(next, append(slices.Clone(l), x))
			}
		}
		all, last = append(all, next...), next
	}
	return all
}

var eight = []string{"0", "00", "9", "a", "aa", "abcdefghijklmnop", "b", "z"}

// full are goods of which there can be no more.
func full() api.Goods {
	g := api.Goods{Skus: slices.Clone(eight)}
	for _, from := range []string{"0", "aa"} {
		for i, to := range []string{"z", "b", "abcdefghijklmnop", "a", "9", "00"} {
			g.Subs = append(g.Subs, api.Sub{From: from, To: to, Rank: i + 1, Num: 1 + 99*(i%2), Den: 100 - 99*(i/3)})
		}
	}
	for i, to := range []string{"b", "a", "0", "9"} {
		g.Subs = append(g.Subs, api.Sub{From: "z", To: to, Rank: 2*i + 3, Num: 3, Den: 2})
	}
	return g
}

// three are goods of three names, of which some stand for others.
func three(subs ...api.Sub) api.Goods {
	return api.Goods{Skus: []string{"a", "b", "c"}, Subs: subs}
}

// goodsThatMayBe are such, by what they are.
func goodsThatMayBe() map[string]api.Goods {
	f := full()
	return map[string]api.Goods{
		"none":                 {},
		"empty lists":          {Skus: []string{}, Subs: []api.Sub{}},
		"one name":             {Skus: []string{"cup"}},
		"seven names":          {Skus: eight[1:]},
		"eight names":          {Skus: eight},
		"full":                 f,
		"15 rules":             {Skus: eight, Subs: f.Subs[1:]},
		"one ahead of longer":  {Skus: []string{"a", "a0", "aa", "b"}},
		"one rule":             three(api.Sub{From: "b", To: "c", Rank: 9, Num: 100, Den: 100}),
		"for each other":       three(api.Sub{From: "a", To: "b", Rank: 1, Num: 1, Den: 1}, api.Sub{From: "b", To: "a", Rank: 1, Num: 1, Den: 1}),
		"two for one":          three(api.Sub{From: "b", To: "c", Rank: 4, Num: 2, Den: 1}, api.Sub{From: "b", To: "a", Rank: 5, Num: 1, Den: 2}),
		"one for two":          three(api.Sub{From: "a", To: "c", Rank: 9, Num: 2, Den: 1}, api.Sub{From: "b", To: "c", Rank: 1, Num: 1, Den: 2}),
		"ranks far apart":      three(api.Sub{From: "c", To: "b", Rank: 1, Num: 7, Den: 9}, api.Sub{From: "c", To: "a", Rank: 9, Num: 7, Den: 9}),
		"ranks that fall back": three(api.Sub{From: "a", To: "b", Rank: 8, Num: 1, Den: 1}, api.Sub{From: "c", To: "b", Rank: 2, Num: 1, Den: 1}),
	}
}

// namesThatMayNotBe are texts that are no names.
func namesThatMayNotBe() []string {
	l := []string{"", "abcdefghijklmnopq", strings.Repeat("0", 17), strings.Repeat("a", 32), strings.Repeat("a", 4096), strings.Repeat("a", 1<<16), "ä", "a\xff", "A", "aB", "a b", " a", "a ", "a\n", "\x00", "a\x00", "a-b", "a_", "é", "１", "K"}
	return append(l, "0123456789abcde\x00", "{bcdefghijklmnop", "`", "/", ":")
}

// rulesThatMayBe are the edges of each field, of names out of a, b and c.
func rulesThatMayBe() []api.Sub {
	var l []api.Sub
	for _, rank := range []int{1, 2, 8, 9} {
		for _, num := range []int{1, 2, 99, 100} {
			for _, den := range []int{1, 2, 99, 100} {
				l = append(l, api.Sub{From: "a", To: "b", Rank: rank, Num: num, Den: den}, api.Sub{From: "c", To: "a", Rank: rank, Num: num, Den: den})
			}
		}
	}
	return l
}

// rulesThatMayNotBe have one field behind an edge, or all.
func rulesThatMayNotBe() []api.Sub {
	l := []api.Sub{{}, {From: "a", To: "a", Rank: 1, Num: 1, Den: 1}, {From: "abcdefghijklmnop", To: "abcdefghijklmnop", Rank: 9, Num: 100, Den: 1}}
	for _, s := range namesThatMayNotBe() {
		l = append(l, api.Sub{From: s, To: "a", Rank: 1, Num: 1, Den: 1}, api.Sub{From: "a", To: s, Rank: 1, Num: 1, Den: 1}, api.Sub{From: s, To: s, Rank: 1, Num: 1, Den: 1})
	}
	for _, n := range []int{0, -1, -9, -100, 101, 102, 256, 257, 1 << 32, 1<<32 + 1, math.MaxInt, math.MinInt} {
		l = append(l, api.Sub{From: "a", To: "b", Rank: n, Num: 1, Den: 1}, api.Sub{From: "a", To: "b", Rank: 1, Num: n, Den: 1}, api.Sub{From: "a", To: "b", Rank: 1, Num: 1, Den: n})
	}
	for _, rank := range []int{10, 11, 99, 100} {
		l = append(l, api.Sub{From: "a", To: "b", Rank: rank, Num: 1, Den: 1})
	}
	return l
}

// goodsThatMayNotBe are such, by what is amiss.
func goodsThatMayNotBe() map[string]api.Goods {
	f := full()
	r := api.Sub{From: "a", To: "b", Rank: 2, Num: 1, Den: 1}
	edit := func(change func(s *api.Sub)) api.Sub { s := r; change(&s); return s }
	all := map[string]api.Goods{
		"nine names":             {Skus: append(slices.Clone(eight), "zz")},
		"a thousand names":       {Skus: slices.Repeat([]string{"a"}, 1000)},
		"17 rules":               {Skus: eight, Subs: append(slices.Clone(f.Subs), api.Sub{From: "z", To: "aa", Rank: 9 + 1, Num: 1, Den: 1})},
		"a thousand rules":       {Skus: eight, Subs: slices.Repeat(f.Subs[:1], 1000)},
		"names from behind":      {Skus: []string{"b", "a"}},
		"a longer one first":     {Skus: []string{"aa", "a"}},
		"letters ahead of 0":     {Skus: []string{"a", "0"}},
		"twice the same":         {Skus: []string{"a", "a"}},
		"twice the same, last":   {Skus: []string{"a", "b", "c", "c"}},
		"no names":               {Subs: []api.Sub{r}},
		"of no From":             {Skus: []string{"b", "c"}, Subs: []api.Sub{r}},
		"of no To":               {Skus: []string{"a", "c"}, Subs: []api.Sub{r}},
		"twice the same rule":    three(r, r),
		"twice the same rank":    three(r, edit(func(s *api.Sub) { s.To = "c" })),
		"twice the same To":      three(r, edit(func(s *api.Sub) { s.Rank = 3 })),
		"ranks from behind":      three(r, edit(func(s *api.Sub) { s.To, s.Rank = "c", 1 })),
		"From from behind":       three(api.Sub{From: "b", To: "a", Rank: 1, Num: 1, Den: 1}, r),
		"From from behind, far":  three(api.Sub{From: "b", To: "a", Rank: 1, Num: 1, Den: 1}, edit(func(s *api.Sub) { s.Rank = 9 })),
		"the same To, not first": {Skus: []string{"a", "b", "c", "d"}, Subs: []api.Sub{r, {From: "a", To: "c", Rank: 3, Num: 1, Den: 1}, {From: "a", To: "b", Rank: 4, Num: 2, Den: 1}}},
	}
	// A seventeenth rule that is well in itself, so that nothing but their number is amiss.
	many := api.Goods{Skus: eight}
	for _, from := range eight[:3] {
		for i, to := range slices.DeleteFunc(slices.Clone(eight), func(s string) bool { return s == from }) {
			many.Subs = append(many.Subs, api.Sub{From: from, To: to, Rank: i + 1, Num: 1, Den: 1})
		}
	}
	many.Subs = many.Subs[:17]
	all["17 rules, each well"] = many
	for i, s := range namesThatMayNotBe() {
		all["no name alone, "+strconv.Itoa(i)] = api.Goods{Skus: []string{s}}
		l := []string{"a", "b", s}
		slices.Sort(l)
		all["no name, in order, "+strconv.Itoa(i)] = api.Goods{Skus: l, Subs: []api.Sub{r}}
	}
	for i, s := range rulesThatMayNotBe() {
		all["no rule alone, "+strconv.Itoa(i)] = three(s)
		all["no rule, first, "+strconv.Itoa(i)] = three(s, api.Sub{From: "c", To: "a", Rank: 9, Num: 1, Den: 1})
		all["no rule, last, "+strconv.Itoa(i)] = three(api.Sub{From: "a", To: "c", Rank: 1, Num: 1, Den: 1}, s)
	}
	return all
}
