package waits_test

import (
	"math"
	"slices"
	"strings"
	"sync"
	"testing"

	"tarry/api"
	"tarry/waits"
)

// The chapter's example.
func TestExample(t *testing.T) {
	l, e := waits.Make([]api.Line{line("cup", 1, 2, 5), line("cup", 0, 7, 6), line("cup", 1, 1, 7)})
	if e != api.OK {
		t.Fatal(e)
	}
	want := []api.Wait{{Class: 0, Seq: 7, Order: 6}, {Class: 1, Seq: 1, Order: 7}, {Class: 1, Seq: 2, Order: 5}}
	if got, e := waits.Of(l, "cup"); e != api.OK || !slices.Equal(got, want) {
		t.Errorf("Of = %v, %d", got, e)
	}
}

// P9.1 and P9.2: all calls, written out.
func TestCalls(t *testing.T) {
	cup, mug, late, jar := line("cup", 1, 5, 30), line("mug", 0, 2, 20), line("cup", 1, 6, 10), line("jar", 3, 1, 40)
	first := line("cup", 0, 6, 10)
	var l []api.Line
	for _, c := range []struct {
		name string
		do   func(l []api.Line) ([]api.Line, api.Errno)
		want []api.Line
	}{
		{"Make", func(l []api.Line) ([]api.Line, api.Errno) { return waits.Make([]api.Line{mug, cup}) }, []api.Line{cup, mug}},
		{"Put late", func(l []api.Line) ([]api.Line, api.Errno) { return waits.Put(l, late) }, []api.Line{cup, late, mug}},
		{"Put jar", func(l []api.Line) ([]api.Line, api.Errno) { return waits.Put(l, jar) }, []api.Line{cup, late, jar, mug}},
		{"Move up", func(l []api.Line) ([]api.Line, api.Errno) { return waits.Move(l, 10, 0) }, []api.Line{first, cup, jar, mug}},
		{"Move to the same", func(l []api.Line) ([]api.Line, api.Errno) { return waits.Move(l, 10, 0) }, []api.Line{first, cup, jar, mug}},
		{"Drop mug", func(l []api.Line) ([]api.Line, api.Errno) { return waits.Drop(l, 20) }, []api.Line{first, cup, jar}},
		{"Move back", func(l []api.Line) ([]api.Line, api.Errno) { return waits.Move(l, 10, 1) }, []api.Line{cup, late, jar}},
		{"Drop cup", func(l []api.Line) ([]api.Line, api.Errno) { return waits.Drop(l, 30) }, []api.Line{late, jar}},
	} {
		got, e := c.do(l)
		if e != api.OK || !slices.Equal(got, c.want) || !waits.Right(got) {
			t.Fatalf("%s: %v, %d; want %v", c.name, got, e, c.want)
		}
		l = got
	}
	if x, e := waits.Find(l, 40); e != api.OK || x != jar {
		t.Errorf("Find 40 = %v, %d", x, e)
	}
	if x, e := waits.Find(l, 30); e != api.ErrNone || x != (api.Line{}) {
		t.Errorf("Find 30 = %v, %d", x, e)
	}
	if w, e := waits.Of(l, "jar"); e != api.OK || !slices.Equal(w, []api.Wait{jar.Wait}) {
		t.Errorf("Of jar = %v, %d", w, e)
	}
	if w, e := waits.Of(l, "mug"); e != api.OK || len(w) > 0 {
		t.Errorf("Of mug = %v, %d", w, e)
	}
}

// P9.1: Right and Make: lines that may be, in order and not.
func TestRightAndMake(t *testing.T) {
	for name, l := range linesThatMayBe() {
		if waits.Right(l) != isIndex(l) {
			t.Errorf("%s: Right = %v", name, waits.Right(l))
		}
		if got, e := made(t, l); e != api.OK || len(got) != len(l) {
			t.Errorf("%s: Make tells %d", name, e)
		}
	}
	for name, l := range indexes() {
		if !waits.Right(l) {
			t.Errorf("%s: it is an index: %v", name, l)
		}
	}
}

// P9.1: Right, of two lines: by name, then by class, then by Seq, and not by order.
func TestRightOfTwo(t *testing.T) {
	for _, c := range []struct {
		a, b api.Line
	}{
		{line("a", 3, 9, 9), line("b", 0, 1, 1)},
		{line("a", 3, 9, 9), line("a0", 0, 1, 1)},
		{line("9", 3, 9, 9), line("a", 0, 1, 1)},
		{line("az", 3, 9, 9), line("b", 0, 1, 1)},
		{line("a", 0, 9, 9), line("a", 1, 1, 1)},
		{line("a", 2, 9, 9), line("a", 3, 1, 1)},
		{line("a", 1, 1, 9), line("a", 1, 2, 1)},
		{line("a", 1, most-1, 9), line("a", 1, most, 1)},
		{line("a", 1, 9, most), line("a", 1, 10, 1)},
	} {
		if !waits.Right([]api.Line{c.a, c.b}) || waits.Right([]api.Line{c.b, c.a}) {
			t.Errorf("%v stands below %v", c.a, c.b)
		}
		for _, l := range [][]api.Line{{c.a, c.b}, {c.b, c.a}} {
			if got, e := waits.Make(l); e != api.OK || !slices.Equal(got, []api.Line{c.a, c.b}) {
				t.Errorf("Make(%v) = %v, %d", l, got, e)
			}
		}
	}
}

// P9.1: Right, of an index two lines of which, side by side or far apart, are turned about.
func TestRightAtEachPlace(t *testing.T) {
	for name, l := range indexes() {
		for i := range l {
			for k := range i {
				other := slices.Clone(l)
				other[i], other[k] = other[k], other[i]
				if waits.Right(other) {
					t.Fatalf("%s, with %d and %d turned about, is no index", name, i, k)
				}
			}
		}
	}
}

// P9.1 and P9.2: all calls refuse lines that may not be; all but Make, lines in another order, too, whatever else is amiss.
func TestNoIndex(t *testing.T) {
	for name, l := range rowsThatMayNotBe() {
		if areLines(l) {
			t.Fatalf("%s may be", name)
		}
		if got, e := waits.Make(l); len(got) > 0 || e != api.ErrArg {
			t.Errorf("%s: Make = %v, %d", name, got, e)
		}
		isRefused(t, name, l)
	}
	for name, l := range linesThatMayBe() {
		if !isIndex(l) {
			isRefused(t, name, l)
		}
	}
}

// isRefused holds that calls tell ErrArg, and nothing beside it, of orders that are there and that are not.
func isRefused(t *testing.T, name string, l []api.Line) {
	t.Helper()
	if waits.Right(l) {
		t.Errorf("%s: Right", name)
	}
	for _, x := range []api.Line{line("a", 1, 7000, 7000), line("b", 9, 0, 0), l[0], l[len(l)-1]} {
		if got, e := waits.Put(l, x); len(got) > 0 || e != api.ErrArg {
			t.Errorf("%s: Put of %v = %v, %d", name, x, got, e)
		}
		if got, e := waits.Drop(l, x.Wait.Order); len(got) > 0 || e != api.ErrArg {
			t.Errorf("%s: Drop of %d = %v, %d", name, x.Wait.Order, got, e)
		}
		for _, class := range []int{0, 3, x.Wait.Class} {
			if got, e := waits.Move(l, x.Wait.Order, class); len(got) > 0 || e != api.ErrArg {
				t.Errorf("%s: Move of %d to %d = %v, %d", name, x.Wait.Order, class, got, e)
			}
		}
		if got, e := waits.Find(l, x.Wait.Order); got != (api.Line{}) || e != api.ErrArg {
			t.Errorf("%s: Find of %d = %v, %d", name, x.Wait.Order, got, e)
		}
		if got, e := waits.Of(l, x.Sku); len(got) > 0 || e != api.ErrArg {
			t.Errorf("%s: Of %q = %v, %d", name, x.Sku, got, e)
		}
	}
}

// P9.1: Put: lines at all edges come into their places, of indexes of every length.
func TestPut(t *testing.T) {
	skus := append(names(), "a0", "zz", "00000", "zzzzzzzzzzzzzzzz", "0000000000000000")
	for _, l := range indexes() {
		for _, sku := range skus {
			for class := range 4 {
				for _, n := range []int{1, 2, 5000, most - 1, most} {
					put(t, l, line(sku, class, n, 6000))
					put(t, l, line(sku, class, 6000, n))
				}
			}
		}
	}
}

// P9.1: Put: each Seq comes into its place between others of the same name and class.
func TestPutBetween(t *testing.T) {
	for n := range 32 {
		var l []api.Line
		for i := range n {
			l = append(l, line("cup", 1, 10*i+10, 100-i))
		}
		for i := range n + 1 {
			got, e := put(t, l, line("cup", 1, 10*i+5, 200))
			if e != api.OK || got[i].Wait.Order != 200 {
				t.Fatalf("%d lines, at %d: %v, %d", n, i, got, e)
			}
		}
	}
}

// P9.1: Put: which error comes first, and its edges.
func TestPutErrors(t *testing.T) {
	l := full()
	seq, order := l[20].Wait.Seq, l[20].Wait.Order
	for _, c := range []struct {
		l    []api.Line
		x    api.Line
		want api.Errno
	}{
		{l, line("new", 1, 5000, 5000), api.ErrFull},
		{l[:31], line("new", 1, 5000, 5000), api.OK},
		{l[1:], line("new", 1, 5000, 5000), api.OK},
		{l, line("new", 1, 5000, order), api.ErrTwice},
		{l, line("new", 1, seq, 5000), api.ErrTwice},
		{l, line("new", 1, seq, order), api.ErrTwice},
		{l, l[20], api.ErrTwice},
		{l[:31], l[20], api.ErrTwice},
		{l[:20], l[20], api.OK},
		{l[21:], l[20], api.OK},
		{l, line("New", 1, 5000, 5000), api.ErrArg},
		{l, line("new", 4, seq, order), api.ErrArg},
		{l, line("", 1, seq, 5000), api.ErrArg},
		{l, line("new", -1, 5000, order), api.ErrArg},
		{l, line("new", 1, 0, order), api.ErrArg},
		{l, line("new", 1, seq, most+1), api.ErrArg},
		{turned(l), l[20], api.ErrArg},
		{nil, line("new", 3, most, most), api.OK},
		{nil, line("new", 3, most+1, most), api.ErrArg},
	} {
		if got, e := put(t, c.l, c.x); e != c.want || e != api.OK && len(got) > 0 {
			t.Errorf("Put of %v to %d lines = %v, %d; want %d", c.x, len(c.l), got, e, c.want)
		}
	}
	for _, x := range linesThatMayNotBe() {
		for _, n := range []int{0, 1, 31, 32} {
			if got, e := waits.Put(l[:n], x); e != api.ErrArg || len(got) > 0 {
				t.Errorf("Put of %v to %d lines = %v, %d; want ErrArg", x, n, got, e)
			}
		}
	}
	for i, x := range l {
		if _, e := put(t, l[:31], line("new", 1, 5000, x.Wait.Order)); (e == api.ErrTwice) != (i < 31) {
			t.Errorf("the order of %d: %d", i, e)
		}
		if _, e := put(t, l[:31], line(x.Sku, x.Wait.Class, x.Wait.Seq, 5000)); (e == api.ErrTwice) != (i < 31) {
			t.Errorf("the Seq of %d: %d", i, e)
		}
	}
}

// ordersOf are those of all lines, and some that are of none.
func ordersOf(l []api.Line) []int {
	all := []int{0, -1, 7000, most, most + 1, math.MaxInt, math.MinInt, 1 << 32}
	for _, x := range l {
		all = append(all, x.Wait.Order, -x.Wait.Order, x.Wait.Order+1<<41)
	}
	return all
}

// P9.2: Drop, Move and Find, of each line and of none, to all classes and others.
func TestDropMoveAndFind(t *testing.T) {
	for name, l := range indexes() {
		for _, order := range ordersOf(l) {
			got, e := dropped(t, l, order)
			x, findE := found(t, l, order)
			if e != findE || e == api.OK && (len(got) != len(l)-1 || slices.Contains(got, x)) || e != api.OK && e != api.ErrNone {
				t.Errorf("%s: Drop of %d = %v, %d, Find %v, %d", name, order, got, e, x, findE)
			}
			for _, class := range []int{0, 1, 2, 3} {
				if _, e := moved(t, l, order, class); e != findE {
					t.Errorf("%s: Move of %d to %d tells %d", name, order, class, e)
				}
			}
			for _, class := range []int{-1, 4, 5, -4, 1 << 8, 1 << 32, math.MaxInt, math.MinInt} {
				if got, e := moved(t, l, order, class); e != api.ErrArg || len(got) > 0 {
					t.Errorf("%s: Move of %d to %d = %v, %d; want ErrArg", name, order, class, got, e)
				}
			}
		}
	}
}

// P9.2: Of, of names that lines have and others: those that begin with one, or with which one begins, or that are no names.
func TestOf(t *testing.T) {
	skus := append(append(names(), "a0", "zz", "000", "abcdefghijklmno", "cup", "zzzzzzzzzzzzzzzz"), namesThatMayNotBe()...)
	for name, l := range indexes() {
		among := 0
		for _, sku := range skus {
			w, e := of(t, l, sku)
			if e != api.OK {
				t.Errorf("%s: Of %q tells %d", name, sku, e)
			}
			among += len(w)
		}
		if among != len(l) {
			t.Errorf("%s: %d of %d are told", name, among, len(l))
		}
	}
}

// P9.1, and R5: every byte, alone, and in a name.
func TestNames(t *testing.T) {
	for b := range 256 {
		byteAlone := string([]byte{byte(b)})
		in := strings.Contains(letters, byteAlone)
		for _, s := range []string{byteAlone, "a" + byteAlone, byteAlone + "0", "abcdefg" + byteAlone + "hijklmno"} {
			x := line(s, 1, 1, 1)
			if waits.Right([]api.Line{x}) != in {
				t.Errorf("Right of %q = %v", s, !in)
			}
			each(t, nil, x)
			each(t, []api.Line{x}, x)
			each(t, []api.Line{line("5", 1, 2, 2), line("a", 1, 3, 3), line("j", 1, 4, 4)}, x)
		}
	}
	for n := range 40 {
		x := line(strings.Repeat("z", n), 1, 1, 1)
		if waits.Right([]api.Line{x}) != (1 <= n && n <= 16) {
			t.Errorf("a name of %d bytes: Right = %v", n, n < 1 || n > 16)
		}
		each(t, nil, x)
		each(t, []api.Line{x}, x)
	}
}

// P9.1: the edges of a wait's numbers, alone and among others.
func TestNumbers(t *testing.T) {
	edges := []int{math.MinInt, -most, -1, 0, 1, 2, most - 1, most, most + 1, 1 << 41, math.MaxInt}
	for _, class := range []int{math.MinInt, -1, 0, 1, 2, 3, 4, math.MaxInt} {
		for _, seq := range edges {
			for _, order := range edges {
				x := line("b", class, seq, order)
				if waits.Right([]api.Line{x}) != isLine(x) {
					t.Errorf("Right of %v = %v", x, !isLine(x))
				}
				each(t, []api.Line{x}, x)
				each(t, []api.Line{line("a", 1, 77, 77), x, line("c", 1, 78, 78)}, x)
				each(t, []api.Line{line("a", 1, 77, 77), line("c", 1, 78, 78)}, x)
			}
		}
	}
}

// P9.1 and P9.2: all calls, of all rows of few lines, with some that are no index among them.
func TestAllRowsOfFew(t *testing.T) {
	few := []api.Line{line("a", 1, 1, 1), line("a", 0, 2, 2), line("a", 1, 3, 3), line("a0", 0, 4, 4), line("b", 0, 2, 5), line("b", 2, 5, 3), line("b", 4, 6, 6)}
	right := 0
	for _, l := range rows(few, 5) {
		if isIndex(l) {
			right++
		}
		for _, x := range few {
			each(t, l, x)
		}
	}
	if right < 20 {
		t.Errorf("just %d of them are an index", right)
	}
}

// P9.3: in whatever order lines are put, or handed to Make, it is the same index.
func TestInWhateverOrder(t *testing.T) {
	few := []api.Line{line("a", 1, 1, 9), line("a", 0, 2, 8), line("a", 1, 3, 7), line("a0", 0, 4, 6), line("b", 0, 5, 5), line("b", 3, 6, 4)}
	for _, l := range orders(few) {
		comesTo(t, l, few)
	}
	for seed := range uint32(16) {
		l := many(seed, 32, 1+int(seed%8))
		for again := range uint32(4) {
			comesTo(t, shuffled(seed*4+again, l), l)
		}
	}
}

// comesTo holds that lines in that order, by Make and one by one, come to the index of the same ones in another order.
func comesTo(t *testing.T, l, same []api.Line) {
	t.Helper()
	want, e := made(t, same)
	if e != api.OK {
		t.Fatalf("Make(%v) tells %d", same, e)
	}
	if got, e := waits.Make(l); e != api.OK || !slices.Equal(got, want) {
		t.Fatalf("Make(%v) = %v, %d; want %v", l, got, e, want)
	}
	var one []api.Line
	for _, x := range l {
		one, _ = put(t, one, x)
	}
	if !slices.Equal(one, want) {
		t.Fatalf("%v, one by one, come to %v; want %v", l, one, want)
	}
}

// P9.3: an index does not hang on lines that were there, and on classes in which orders were.
func TestThereAndBack(t *testing.T) {
	for name, l := range indexes() {
		for i, x := range l {
			without, e := dropped(t, l, x.Wait.Order)
			if e != api.OK {
				t.Fatalf("%s, %d: %d", name, i, e)
			}
			if again, e := put(t, without, x); e != api.OK || !slices.Equal(again, l) {
				t.Fatalf("%s, %d, there and back: %v, %d", name, i, again, e)
			}
			for class := range 4 {
				other, _ := moved(t, l, x.Wait.Order, class)
				x.Wait.Class = class
				if want, _ := put(t, without, x); !slices.Equal(other, want) {
					t.Fatalf("%s, %d, in class %d: %v; want %v", name, i, class, other, want)
				}
				if again, e := moved(t, other, x.Wait.Order, l[i].Wait.Class); e != api.OK || !slices.Equal(again, l) {
					t.Fatalf("%s, %d, to class %d and back: %v, %d", name, i, class, again, e)
				}
			}
		}
	}
}

// P9.3: whatever happened, an index is that of its lines; all calls in turns, with full ones and none between.
func TestInTurns(t *testing.T) {
	all, there, told, none := many(20, 48, 4), []api.Line(nil), map[api.Errno]int{}, 0
	for i := range 4000 {
		x := all[(11*i+i/7)%48]
		var got []api.Line
		var e api.Errno
		switch {
		case i%5 == 4:
			got, e = moved(t, there, x.Wait.Order, i%4)
		case i%400 < 150:
			got, e = put(t, there, x)
		default:
			got, e = dropped(t, there, x.Wait.Order)
		}
		told[e]++
		if e == api.OK {
			there = got
		}
		if got, e := made(t, shuffled(uint32(i), there)); e != api.OK || !slices.Equal(got, there) {
			t.Fatalf("behind %d calls: %v, %d; want %v", i+1, got, e, there)
		}
		if len(there) == 0 {
			none++
		}
	}
	for _, e := range []api.Errno{api.OK, api.ErrTwice, api.ErrFull, api.ErrNone} {
		if told[e] < 20 || none < 20 {
			t.Errorf("%d is told %d times, and there is none %d times", e, told[e], none)
		}
	}
}

// P9.3: who waits longer, in the same class, goes first; and all of a class go ahead of all of the next one.
func TestWhoWaitsLongerGoesFirst(t *testing.T) {
	for name, l := range indexes() {
		for _, sku := range names() {
			w, _ := of(t, l, sku)
			for i := range w {
				for _, behind := range w[i+1:] {
					if w[i].Class > behind.Class || w[i].Class == behind.Class && w[i].Seq >= behind.Seq {
						t.Errorf("%s: of %s, %v goes ahead of %v", name, sku, w[i], behind)
					}
				}
			}
		}
	}
}

// R3: no list is an empty one.
func TestNoListIsAnEmptyOne(t *testing.T) {
	for _, l := range [][]api.Line{nil, {}, make([]api.Line, 0, 5)} {
		if !waits.Right(l) {
			t.Error("none is an index")
		}
		for _, x := range []api.Line{line("a", 0, 1, 1), line("a", 4, 1, 1), line("", 0, 0, 0)} {
			each(t, l, x)
		}
	}
}

// R4, and the language's rule of new memory: no list that is handed in is changed, not even behind its end, and none that is answered is a part of it.
func TestListsStay(t *testing.T) {
	spoiled := line("overwritten", 7, 7, 7)
	calls := map[string]func(l []api.Line, x api.Line) []api.Line{
		"Right": func(l []api.Line, _ api.Line) []api.Line { waits.Right(l); return nil },
		"Make":  func(l []api.Line, _ api.Line) []api.Line { got, _ := waits.Make(l); return got },
		"Put": func(l []api.Line, _ api.Line) []api.Line {
			got, _ := waits.Put(l, line("aa", 1, 5000, 5000))
			return got
		},
		"Drop": func(l []api.Line, x api.Line) []api.Line { got, _ := waits.Drop(l, x.Wait.Order); return got },
		"Move": func(l []api.Line, x api.Line) []api.Line {
			got, _ := waits.Move(l, x.Wait.Order, x.Wait.Seq%4)
			return got
		},
		"Find": func(l []api.Line, x api.Line) []api.Line { waits.Find(l, x.Wait.Order); return nil },
		"Of":   func(l []api.Line, x api.Line) []api.Line { waits.Of(l, x.Sku); return nil },
	}
	for call, do := range calls {
		for name, l := range linesThatMayBe() {
			for _, x := range append(slices.Clone(l), spoiled) {
				tail := append(slices.Clone(l), spoiled, spoiled, spoiled)
				handed := slices.Clone(tail)
				answer := do(handed[:len(l)], x)
				for i := range answer[:cap(answer)] {
					answer[:cap(answer)][i] = line("scribbled", 8, 8, 8)
				}
				if !slices.Equal(handed, tail) {
					t.Fatalf("%s, of %v, changes %s", call, x, name)
				}
			}
		}
	}
}

// R1: calls that run side by side, or one behind the other, know nothing of each other.
func TestNothingIsKept(t *testing.T) {
	l := inOrder(many(21, 30, 4))
	var all sync.WaitGroup
	for i := range 16 {
		all.Go(func() {
			x := l[i]
			made, _ := makeAnswer(turned(l))
			put, _ := putAnswer(l, line("b", i%4, 5000+i, 5000))
			dropped, _ := dropAnswer(l, x.Wait.Order)
			moved, _ := moveAnswer(l, x.Wait.Order, i%4)
			of, _ := ofAnswer(l, x.Sku)
			for range 40 {
				a, _ := waits.Make(turned(l))
				b, _ := waits.Put(l, line("b", i%4, 5000+i, 5000))
				c, _ := waits.Drop(l, x.Wait.Order)
				d, _ := waits.Move(l, x.Wait.Order, i%4)
				e, _ := waits.Of(l, x.Sku)
				f, _ := waits.Find(l, x.Wait.Order)
				if !slices.Equal(a, made) || !slices.Equal(b, put) || !slices.Equal(c, dropped) || !slices.Equal(d, moved) || !slices.Equal(e, of) || f != x {
					t.Error("a call answers something else")
					return
				}
			}
		})
	}
	all.Wait()
}
