package goods_test

import (
	"math"
	"slices"
	"strings"
	"sync"
	"testing"

	"tarry/api"
	"tarry/goods"
)

// The chapter's example.
func TestExample(t *testing.T) {
	if n, e := goods.Units(api.Sub{From: "cup", To: "mug", Rank: 1, Num: 3, Den: 2}, 5); n != 8 || e != api.OK {
		t.Errorf("Units = %d, %d", n, e)
	}
}

// P7.1: all calls, written out.
func TestCalls(t *testing.T) {
	var g api.Goods
	var e api.Errno
	for _, sku := range []string{"mug", "cup", "glass"} {
		if g, e = goods.Know(g, sku); e != api.OK {
			t.Fatal(sku, e)
		}
	}
	far := api.Sub{From: "cup", To: "glass", Rank: 7, Num: 1, Den: 1}
	near := api.Sub{From: "cup", To: "mug", Rank: 2, Num: 2, Den: 1}
	other := api.Sub{From: "glass", To: "mug", Rank: 2, Num: 1, Den: 3}
	for _, s := range []api.Sub{other, far, near} {
		if g, e = goods.Rule(g, s); e != api.OK {
			t.Fatal(s, e)
		}
	}
	want := api.Goods{Skus: []string{"cup", "glass", "mug"}, Subs: []api.Sub{near, far, other}}
	if !same(g, want) || !goods.Right(g) {
		t.Errorf("goods: %v", g)
	}
	if l, e := goods.For(g, "cup"); e != api.OK || !slices.Equal(l, []api.Sub{near, far}) {
		t.Errorf("For cup = %v, %d", l, e)
	}
	if l, e := goods.For(g, "mug"); e != api.OK || len(l) > 0 {
		t.Errorf("For mug = %v, %d", l, e)
	}
	if l, e := goods.For(g, "jar"); e != api.ErrNone || len(l) > 0 {
		t.Errorf("For jar = %v, %d", l, e)
	}
}

// P7.1: Right: goods that may be, and that may not.
func TestRight(t *testing.T) {
	for name, g := range goodsThatMayBe() {
		if !areGoods(g) || !goods.Right(g) {
			t.Errorf("%s: they may be: %v", name, g)
		}
	}
	for name, g := range goodsThatMayNotBe() {
		if areGoods(g) || goods.Right(g) {
			t.Errorf("%s: they may not be: %v", name, g)
		}
	}
	for _, s := range rulesThatMayBe() {
		if !goods.Right(three(s)) {
			t.Errorf("it may be: %v", s)
		}
	}
}

// P7.1, and R5: every byte, alone, and at each end of a name.
func TestNames(t *testing.T) {
	for b := range 256 {
		in := strings.IndexByte(letters, byte(b)) >= 0
		for _, s := range []string{string([]byte{byte(b)}), "a" + string([]byte{byte(b)}), string([]byte{byte(b)}) + "0", "abcdefg" + string([]byte{byte(b)}) + "hijklmno"} {
			if goods.Right(api.Goods{Skus: []string{s}}) != in {
				t.Errorf("Right of %q = %v", s, !in)
			}
			known(t, api.Goods{}, s)
		}
	}
	for n := range 40 {
		s := strings.Repeat("z", n)
		if goods.Right(api.Goods{Skus: []string{s}}) != (1 <= n && n <= 16) {
			t.Errorf("a name of %d bytes: Right = %v", n, n < 1 || n > 16)
		}
		known(t, api.Goods{}, s)
	}
}

// P7.1: Right, Know and For of all rows of few texts.
func TestAllRowsOfFewNames(t *testing.T) {
	few := []string{"a", "ab", "b", "0", "", "B"}
	for _, l := range rows(few, 4) {
		g := api.Goods{Skus: l}
		if goods.Right(g) != areGoods(g) {
			t.Fatalf("Right(%q) = %v", l, goods.Right(g))
		}
		for _, s := range few {
			known(t, g, s)
			found(t, g, s)
		}
	}
}

// P7.1: Right, Rule and For of all rows of few rules.
func TestAllRowsOfFewRules(t *testing.T) {
	var few []api.Sub
	for _, from := range []string{"a", "b"} {
		for _, to := range []string{"a", "b", "c"} {
			for rank := range 2 {
				few = append(few, api.Sub{From: from, To: to, Rank: rank + 1, Num: 3 - rank, Den: 2})
			}
		}
	}
	for _, l := range rows(few, 3) {
		g := three(l...)
		if goods.Right(g) != areGoods(g) {
			t.Fatalf("Right(%v) = %v", g, goods.Right(g))
		}
		for _, s := range few {
			ruled(t, g, s)
		}
		for _, sku := range []string{"a", "b", "c", "d", ""} {
			found(t, g, sku)
		}
	}
}

// P7.1: Know: names of all kinds, among goods of all kinds.
func TestKnow(t *testing.T) {
	names := append(namesThatMayNotBe(), eight...)
	names = append(names, "cup", "c", "zz", "zzzzzzzzzzzzzzzz", "0000000000000000", "abcdefghijklmno", "a0")
	for _, g := range goodsThatMayBe() {
		for _, s := range names {
			known(t, g, s)
		}
	}
	for _, g := range goodsThatMayNotBe() {
		for _, s := range []string{"", "a", "b", "zz", "cup"} {
			if _, e := known(t, g, s); e != api.ErrArg {
				t.Errorf("Know(%v, %q) tells %d", g, s, e)
			}
		}
	}
}

// P7.1: Know: which error comes first.
func TestKnowErrors(t *testing.T) {
	for _, c := range []struct {
		g    api.Goods
		sku  string
		want api.Errno
	}{
		{full(), "", api.ErrArg},
		{full(), "Z", api.ErrArg},
		{full(), "z", api.ErrTwice},
		{full(), "0", api.ErrTwice},
		{full(), "zz", api.ErrFull},
		{api.Goods{Skus: eight[:7]}, "a", api.ErrTwice},
		{api.Goods{Skus: eight[:7]}, "z", api.OK},
		{api.Goods{Skus: []string{"b", "a"}}, "a", api.ErrArg},
	} {
		if g, e := goods.Know(c.g, c.sku); e != c.want || e != api.OK && !isZero(g) {
			t.Errorf("Know(%v, %q) = %v, %d; want %d", c.g, c.sku, g, e, c.want)
		}
	}
}

// P7.1: Rule: rules of all kinds, among goods of all kinds.
func TestRule(t *testing.T) {
	all := append(rulesThatMayBe(), rulesThatMayNotBe()...)
	for _, from := range append([]string{"d", "cup"}, eight...) {
		for _, to := range append([]string{"d", "cup"}, eight...) {
			for rank := 1; rank <= 9; rank++ {
				all = append(all, api.Sub{From: from, To: to, Rank: rank, Num: rank, Den: 5})
			}
		}
	}
	for _, g := range goodsThatMayBe() {
		for _, s := range all {
			ruled(t, g, s)
		}
	}
	for _, g := range goodsThatMayNotBe() {
		for _, s := range []api.Sub{{}, {From: "a", To: "b", Rank: 1, Num: 1, Den: 1}, {From: "c", To: "a", Rank: 5, Num: 3, Den: 2}, {From: "x", To: "y", Rank: 1, Num: 1, Den: 1}} {
			if _, e := ruled(t, g, s); e != api.ErrArg {
				t.Errorf("Rule(%v, %v) tells %d", g, s, e)
			}
		}
	}
}

// P7.1: Rule: which error comes first.
func TestRuleErrors(t *testing.T) {
	one := three(api.Sub{From: "a", To: "b", Rank: 2, Num: 1, Den: 1})
	almost := api.Goods{Skus: eight, Subs: full().Subs[:15]}
	last := full().Subs[15]
	for _, c := range []struct {
		g    api.Goods
		s    api.Sub
		want api.Errno
	}{
		{one, api.Sub{From: "a", To: "x", Rank: 10, Num: 1, Den: 1}, api.ErrArg},
		{one, api.Sub{From: "a", To: "a", Rank: 2, Num: 1, Den: 1}, api.ErrArg},
		{one, api.Sub{From: "x", To: "x", Rank: 2, Num: 1, Den: 1}, api.ErrArg},
		{one, api.Sub{From: "a", To: "x", Rank: 2, Num: 1, Den: 1}, api.ErrNone},
		{one, api.Sub{From: "x", To: "b", Rank: 2, Num: 1, Den: 1}, api.ErrNone},
		{one, api.Sub{From: "x", To: "y", Rank: 2, Num: 1, Den: 1}, api.ErrNone},
		{one, api.Sub{From: "a", To: "b", Rank: 2, Num: 1, Den: 1}, api.ErrTwice},
		{one, api.Sub{From: "a", To: "b", Rank: 3, Num: 5, Den: 1}, api.ErrTwice},
		{one, api.Sub{From: "a", To: "c", Rank: 2, Num: 1, Den: 5}, api.ErrTwice},
		{one, api.Sub{From: "a", To: "c", Rank: 3, Num: 1, Den: 1}, api.OK},
		{one, api.Sub{From: "b", To: "a", Rank: 2, Num: 1, Den: 1}, api.OK},
		{one, api.Sub{From: "c", To: "b", Rank: 2, Num: 1, Den: 1}, api.OK},
		{full(), api.Sub{From: "z", To: "Z", Rank: 1, Num: 1, Den: 1}, api.ErrArg},
		{full(), api.Sub{From: "z", To: "y", Rank: 1, Num: 1, Den: 1}, api.ErrNone},
		{full(), last, api.ErrTwice},
		{full(), api.Sub{From: "z", To: "aa", Rank: 9, Num: 1, Den: 1}, api.ErrTwice},
		{full(), api.Sub{From: "z", To: "b", Rank: 1, Num: 1, Den: 1}, api.ErrTwice},
		{full(), api.Sub{From: "z", To: "aa", Rank: 1, Num: 1, Den: 1}, api.ErrFull},
		{full(), api.Sub{From: "b", To: "a", Rank: 1, Num: 1, Den: 1}, api.ErrFull},
		{almost, last, api.OK},
		{almost, api.Sub{From: "b", To: "a", Rank: 9, Num: 1, Den: 1}, api.OK},
	} {
		if g, e := goods.Rule(c.g, c.s); e != c.want || e != api.OK && !isZero(g) {
			t.Errorf("Rule(%v, %v) = %v, %d; want %d", c.g, c.s, g, e, c.want)
		}
	}
}

// P7.1: For: of goods of all kinds.
func TestFor(t *testing.T) {
	skus := append(append([]string{"a", "b", "c", "cup", "d"}, eight...), namesThatMayNotBe()...)
	for _, g := range goodsThatMayBe() {
		for _, sku := range skus {
			found(t, g, sku)
		}
	}
	for _, g := range goodsThatMayNotBe() {
		for _, sku := range []string{"", "a", "b", "x"} {
			if l, e := found(t, g, sku); e != api.ErrArg || len(l) > 0 {
				t.Errorf("For(%v, %q) = %v, %d", g, sku, l, e)
			}
		}
	}
}

// P7.2: Units, written out.
func TestUnitsWrittenOut(t *testing.T) {
	for _, c := range []struct {
		num, den, n int
		want        int
		e           api.Errno
	}{
		{1, 1, 1, 1, api.OK},
		{2, 1, 5, 10, api.OK},
		{1, 2, 5, 3, api.OK},
		{1, 2, 4, 2, api.OK},
		{3, 2, 5, 8, api.OK},
		{1, 100, 1, 1, api.OK},
		{1, 100, 100, 1, api.OK},
		{1, 100, 101, 2, api.OK},
		{100, 99, 1, 2, api.OK},
		{99, 100, 1, 1, api.OK},
		{99, 100, 100, 99, api.OK},
		{1, 1, most, most, api.OK},
		{1, 1, most + 1, 0, api.ErrArg},
		{1, 100, most + 1, 0, api.ErrArg},
		{1, 1, 0, 0, api.ErrArg},
		{1, 1, -1, 0, api.ErrArg},
		{100, 100, most, most, api.OK},
		{2, 1, most / 2, most, api.OK},
		{2, 1, most/2 + 1, 0, api.ErrOver},
		{100, 1, most, 0, api.ErrOver},
		{100, 1, most / 100, most / 100 * 100, api.OK},
		{100, 1, most/100 + 1, 0, api.ErrOver},
		{1, 100, most, most/100 + 1, api.OK},
		// 7 times this is 5 times 2^30, and 2: one more than 2^30, rounded up.
		{7, 5, (5*most + 2) / 7, 0, api.ErrOver},
		{7, 5, (5*most+2)/7 - 1, most - 1, api.OK},
	} {
		s := api.Sub{From: "a", To: "b", Rank: 1, Num: c.num, Den: c.den}
		if got, e := goods.Units(s, c.n); got != c.want || e != c.e {
			t.Errorf("%d for %d: Units of %d = %d, %d; want %d, %d", c.num, c.den, c.n, got, e, c.want, c.e)
		}
	}
}

// P7.2 and P7.3: Units, of all that is needed for all that is given up, at the edges: as many are enough, one less is not, and just what is above 2^30 is refused.
func TestUnits(t *testing.T) {
	for num := 1; num <= 100; num++ {
		for den := 1; den <= 100; den++ {
			s := api.Sub{From: "a", To: "b", Rank: 1 + num%9, Num: num, Den: den}
			last := min(most*den/num, most)
			for _, n := range []int{1, 2, 3, 5, 99, 100, 101, 1000, most / 100, last - 1, last, last + 1, last + 2, most - 1, most, most + 1, 0, -1} {
				needed(t, s, n)
			}
			if _, e := goods.Units(s, last); e != api.OK {
				t.Fatalf("%v: %d tells %d", s, last, e)
			}
			if _, e := goods.Units(s, last+1); e == api.OK {
				t.Fatalf("%v: %d is not refused", s, last+1)
			}
		}
	}
	for n := 1; n < 400; n++ {
		for _, s := range rulesThatMayBe() {
			needed(t, s, n)
		}
	}
}

// P7.2: Units: arguments that may not be, ErrArg ahead of ErrOver.
func TestUnitsErrors(t *testing.T) {
	for _, s := range rulesThatMayNotBe() {
		for _, n := range []int{1, 5, most, 0, -1, most + 1, math.MaxInt, math.MinInt} {
			if got, e := goods.Units(s, n); got != 0 || e != api.ErrArg {
				t.Errorf("Units(%v, %d) = %d, %d; want ErrArg", s, n, got, e)
			}
		}
	}
	for _, s := range rulesThatMayBe() {
		for _, n := range []int{0, -1, -5, -most, most + 1, 1 << 31, 1<<32 + 1, 1 << 62, math.MaxInt, math.MinInt, math.MaxInt/100 + 1} {
			if got, e := goods.Units(s, n); got != 0 || e != api.ErrArg {
				t.Errorf("Units(%v, %d) = %d, %d; want ErrArg", s, n, got, e)
			}
		}
	}
}

// P7.3: what may be stays such, in whatever order it comes about, and comes to the same.
func TestInWhateverOrder(t *testing.T) {
	for _, l := range orders(eight[:6]) {
		var g api.Goods
		for _, s := range l {
			g, _ = known(t, g, s)
		}
		if !slices.Equal(g.Skus, eight[:6]) {
			t.Fatalf("%q come to %q", l, g.Skus)
		}
	}
	f := full()
	for _, picked := range [][]api.Sub{f.Subs[:5], f.Subs[4:9], {f.Subs[15], f.Subs[0], f.Subs[6], f.Subs[12], f.Subs[3]}} {
		want := slices.SortedFunc(slices.Values(picked), func(a, b api.Sub) int { return slices.Index(f.Subs, a) - slices.Index(f.Subs, b) })
		for _, l := range orders(picked) {
			g := api.Goods{Skus: eight}
			for _, s := range l {
				g, _ = ruled(t, g, s)
			}
			if !slices.Equal(g.Subs, want) {
				t.Fatalf("%v come to %v", l, g.Subs)
			}
		}
	}
}

// P7.3: from none to full, names and rules in turns.
func TestUntilFull(t *testing.T) {
	f := full()
	for _, back := range []bool{false, true} {
		skus, subs := slices.Clone(f.Skus), slices.Clone(f.Subs)
		if back {
			slices.Reverse(skus)
			slices.Reverse(subs)
		}
		var g api.Goods
		for _, s := range skus {
			for _, r := range subs {
				g, _ = orSame(g)(ruled(t, g, r))
			}
			g, _ = known(t, g, s)
		}
		for _, r := range subs {
			g, _ = orSame(g)(ruled(t, g, r))
		}
		if !same(g, f) {
			t.Errorf("it comes to %v", g)
		}
	}
}

// orSame is what is answered, or, beside an error, what there was.
func orSame(g api.Goods) func(api.Goods, api.Errno) (api.Goods, api.Errno) {
	return func(answer api.Goods, e api.Errno) (api.Goods, api.Errno) {
		if e != api.OK {
			return g, e
		}
		return answer, e
	}
}

// R4, and the language's rule of new memory: no list that is handed in is changed, not even behind its end, and none that is answered is a part of one, or of another one.
func TestListsStay(t *testing.T) {
	calls := map[string]func(api.Goods) api.Goods{
		"Right":       func(g api.Goods) api.Goods { goods.Right(g); return api.Goods{} },
		"Know":        func(g api.Goods) api.Goods { a, _ := goods.Know(g, "m"); return a },
		"Know, first": func(g api.Goods) api.Goods { a, _ := goods.Know(g, "000"); return a },
		"Know, last":  func(g api.Goods) api.Goods { a, _ := goods.Know(g, "zz"); return a },
		"Rule": func(g api.Goods) api.Goods {
			a, _ := goods.Rule(g, api.Sub{From: "b", To: "a", Rank: 1, Num: 1, Den: 1})
			return a
		},
		"Rule, first": func(g api.Goods) api.Goods {
			a, _ := goods.Rule(g, api.Sub{From: "0", To: "aa", Rank: 9, Num: 1, Den: 1})
			return a
		},
		"Rule, last": func(g api.Goods) api.Goods {
			a, _ := goods.Rule(g, api.Sub{From: "z", To: "aa", Rank: 8, Num: 1, Den: 1})
			return a
		},
		"For":        func(g api.Goods) api.Goods { l, _ := goods.For(g, "z"); return api.Goods{Subs: l} },
		"For, first": func(g api.Goods) api.Goods { l, _ := goods.For(g, "0"); return api.Goods{Subs: l} },
	}
	f := full()
	rows := []api.Goods{{}, {Skus: eight[:1]}, {Skus: eight[:7]}, f, {Skus: eight, Subs: f.Subs[:15]}, {Skus: eight, Subs: f.Subs[1:9]}, {Skus: []string{"a", "b", "z"}}}
	for name, call := range calls {
		for _, g := range rows {
			skus := append(slices.Clone(g.Skus), "tail", "tail", "tail")
			subs := append(slices.Clone(g.Subs), api.Sub{Rank: 77}, api.Sub{Rank: 77}, api.Sub{Rank: 77})
			handed := api.Goods{Skus: slices.Clone(skus)[:len(g.Skus)], Subs: slices.Clone(subs)[:len(g.Subs)]}
			overwrite(call(handed))
			if !slices.Equal(handed.Skus[:len(skus)], skus) || !slices.Equal(handed.Subs[:len(subs)], subs) {
				t.Errorf("%s changes %v", name, g)
			}
		}
	}
}

// overwrite changes all that a list has, and what is behind its end.
func overwrite(g api.Goods) {
	for i := range g.Skus[:cap(g.Skus)] {
		g.Skus[:cap(g.Skus)][i] = "overwritten"
	}
	for i := range g.Subs[:cap(g.Subs)] {
		g.Subs[:cap(g.Subs)][i] = api.Sub{Rank: 99}
	}
}

// R3: no list is an empty one.
func TestNoListIsAnEmptyOne(t *testing.T) {
	s := api.Sub{From: "a", To: "b", Rank: 1, Num: 1, Den: 1}
	for _, skus := range [][]string{nil, {}, make([]string, 0, 5)} {
		for _, subs := range [][]api.Sub{nil, {}, make([]api.Sub, 0, 5)} {
			g := api.Goods{Skus: skus, Subs: subs}
			if !goods.Right(g) {
				t.Errorf("they may be: %v", g)
			}
			known(t, g, "a")
			ruled(t, g, s)
			found(t, g, "a")
			known(t, api.Goods{Skus: []string{"a"}, Subs: subs}, "b")
			ruled(t, api.Goods{Skus: []string{"a", "b"}, Subs: subs}, s)
			found(t, api.Goods{Skus: []string{"a", "b"}, Subs: subs}, "b")
		}
	}
}

// R1: calls that run side by side, or one behind the other, know nothing of each other.
func TestNothingIsKept(t *testing.T) {
	f := full()
	seven := api.Goods{Skus: eight[:7]}
	almost := api.Goods{Skus: eight, Subs: f.Subs[:15]}
	var all sync.WaitGroup
	for i := range 16 {
		all.Go(func() {
			for range 50 {
				if g, e := goods.Know(seven, eight[7]); e != api.OK || !slices.Equal(g.Skus, eight) {
					t.Errorf("%d: Know = %v, %d", i, g, e)
				}
				if g, e := goods.Rule(almost, f.Subs[15]); e != api.OK || !same(g, f) {
					t.Errorf("%d: Rule = %v, %d", i, g, e)
				}
				if l, e := goods.For(f, "z"); e != api.OK || !slices.Equal(l, f.Subs[12:]) {
					t.Errorf("%d: For = %v, %d", i, l, e)
				}
				if n, e := goods.Units(f.Subs[15], i+1); e != api.OK || n != (3*i+4)/2 {
					t.Errorf("%d: Units = %d, %d", i, n, e)
				}
				if !goods.Right(f) || goods.Right(api.Goods{Subs: f.Subs}) {
					t.Errorf("%d: Right", i)
				}
			}
		})
	}
	all.Wait()
}
