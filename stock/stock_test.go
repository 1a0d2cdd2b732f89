package stock_test

import (
	"math"
	"slices"
	"strings"
	"sync"
	"testing"

	"tarry/api"
	"tarry/stock"
)

// The chapter's example.
func TestExample(t *testing.T) {
	l, e := stock.Receive(nil, "cup", 5)
	if e != api.OK {
		t.Fatal(e)
	}
	l, e = stock.Hold(l, "cup", 2)
	if r, getE := stock.Get(l, "cup"); e != api.OK || getE != api.OK || r.Free != 3 || r.Held != 2 {
		t.Errorf("%v, %d, %d", r, e, getE)
	}
}

// P8.1 and P8.2: all calls, written out.
func TestCalls(t *testing.T) {
	var l []api.Row
	for _, c := range []struct {
		name string
		do   func(l []api.Row, sku string, n int) ([]api.Row, api.Errno)
		sku  string
		n    int
		want []api.Row
	}{
		{"Receive", stock.Receive, "mug", 20, []api.Row{{Sku: "mug", In: 20, Free: 20}}},
		{"Receive", stock.Receive, "cup", 7, []api.Row{{Sku: "cup", In: 7, Free: 7}, {Sku: "mug", In: 20, Free: 20}}},
		{"Receive", stock.Receive, "mug", 10, []api.Row{{Sku: "cup", In: 7, Free: 7}, {Sku: "mug", In: 30, Free: 30}}},
		{"Hold", stock.Hold, "mug", 12, []api.Row{{Sku: "cup", In: 7, Free: 7}, {Sku: "mug", In: 30, Free: 18, Held: 12}}},
		{"Release", stock.Release, "mug", 2, []api.Row{{Sku: "cup", In: 7, Free: 7}, {Sku: "mug", In: 30, Free: 20, Held: 10}}},
		{"Ship", stock.Ship, "mug", 9, []api.Row{{Sku: "cup", In: 7, Free: 7}, {Sku: "mug", In: 30, Free: 20, Held: 1, Shipped: 9}}},
		{"Lose", stock.Lose, "mug", 4, []api.Row{{Sku: "cup", In: 7, Free: 7}, {Sku: "mug", In: 30, Free: 16, Held: 1, Shipped: 9, Lost: 4}}},
		{"Lose", stock.Lose, "cup", 7, []api.Row{{Sku: "cup", In: 7, Lost: 7}, {Sku: "mug", In: 30, Free: 16, Held: 1, Shipped: 9, Lost: 4}}},
		{"Receive", stock.Receive, "jar", 1, []api.Row{{Sku: "cup", In: 7, Lost: 7}, {Sku: "jar", In: 1, Free: 1}, {Sku: "mug", In: 30, Free: 16, Held: 1, Shipped: 9, Lost: 4}}},
	} {
		got, e := c.do(l, c.sku, c.n)
		if e != api.OK || !slices.Equal(got, c.want) || !stock.Right(got) {
			t.Fatalf("%s of %d %s: %v, %d; want %v", c.name, c.n, c.sku, got, e, c.want)
		}
		l = got
	}
	if r, e := stock.Get(l, "mug"); e != api.OK || r != (api.Row{Sku: "mug", In: 30, Free: 16, Held: 1, Shipped: 9, Lost: 4}) {
		t.Errorf("Get mug = %v, %d", r, e)
	}
	if r, e := stock.Get(l, "glass"); e != api.ErrNone || r != (api.Row{}) {
		t.Errorf("Get glass = %v, %d", r, e)
	}
}

// P8.1: Right: stock that may be, and that may not.
func TestRight(t *testing.T) {
	for name, l := range stockThatMayBe() {
		if !isStock(l) || !stock.Right(l) {
			t.Errorf("%s: it may be: %v", name, l)
		}
	}
	for name, l := range stockThatMayNotBe() {
		if isStock(l) || stock.Right(l) {
			t.Errorf("%s: it may not be: %v", name, l)
		}
	}
}

// P8.1: Right, of all rows of few numbers: at the edges, behind them, and where sums wrap round.
func TestRightOfAllNumbers(t *testing.T) {
	few := []int{-1, 0, 1, 2, most / 2, most - 1, most, most + 1, 1 << 62, math.MaxInt, math.MinInt}
	right := 0
	for _, l := range rows(few, 5) {
		if len(l) < 5 {
			continue
		}
		r := row("cup", [5]int(l))
		if stock.Right([]api.Row{r}) != isRow(r) {
			t.Fatalf("Right(%v) = %v", r, !isRow(r))
		}
		if stock.Right([]api.Row{{Sku: "a"}, r, {Sku: "z"}}) != isRow(r) {
			t.Fatalf("Right(%v), among others, = %v", r, !isRow(r))
		}
		if isRow(r) {
			right++
		}
	}
	if right < 20 {
		t.Errorf("just %d of them may be", right)
	}
}

// P8.1, and R5: every byte, alone, and at each end of a name.
func TestNames(t *testing.T) {
	for b := range 256 {
		byteAlone := string([]byte{byte(b)})
		in := strings.Contains(letters, byteAlone)
		for _, s := range []string{byteAlone, "a" + byteAlone, byteAlone + "0", "abcdefg" + byteAlone + "hijklmno"} {
			if stock.Right([]api.Row{{Sku: s}}) != in {
				t.Errorf("Right of %q = %v", s, !in)
			}
			each(t, nil, s, 1)
			each(t, []api.Row{some(s, 1, 1, 0, 0)}, s, 1)
		}
	}
	for n := range 40 {
		s := strings.Repeat("z", n)
		if stock.Right([]api.Row{{Sku: s}}) != (1 <= n && n <= 16) {
			t.Errorf("a name of %d bytes: Right = %v", n, n < 1 || n > 16)
		}
		each(t, nil, s, 1)
		each(t, []api.Row{some(s, 1, 1, 0, 0)}, s, 1)
	}
}

// P8.1 and P8.2: all calls, of all rows of few texts.
func TestAllRowsOfFewNames(t *testing.T) {
	few := []string{"a", "ab", "b", "0", "", "B"}
	for _, names := range rows(few, 4) {
		var l []api.Row
		for i, s := range names {
			l = append(l, some(s, i, 1, 2, 3))
		}
		for _, s := range few {
			each(t, l, s, 1)
		}
	}
}

// P8.1 and P8.2: all calls, of stock of all kinds, its names and others, and numbers at all edges.
func TestAllCalls(t *testing.T) {
	skus := append(append(eight(), "cup", "mug", "a0", "c", "zz", "zzzzzzzzzzzzzzzz", "0000000000000000"), namesThatMayNotBe()...)
	units := append(unitsThatMayNotBe(), 1, 2, 3, 4, 5, most/4, most/4+1, most/2, most-1, most)
	for _, l := range stockThatMayBe() {
		for _, s := range skus {
			for _, n := range units {
				each(t, l, s, n)
			}
		}
	}
}

// P8.1 and P8.2: stock that may not be is refused by all calls, whatever else is amiss.
func TestStockThatMayNotBe(t *testing.T) {
	for name, l := range stockThatMayNotBe() {
		for _, s := range []string{"a", "b", "cup", "zz", "", "A"} {
			if r, e := stock.Get(l, s); r != (api.Row{}) || e != api.ErrArg {
				t.Errorf("%s: Get %q = %v, %d", name, s, r, e)
			}
			for _, n := range []int{1, most, 0, most + 1} {
				for _, c := range append(moves(), call{"Receive", stock.Receive, in, free}) {
					if got, e := c.do(l, s, n); len(got) > 0 || e != api.ErrArg {
						t.Errorf("%s: %s of %d %q = %v, %d", name, c.name, n, s, got, e)
					}
				}
			}
		}
	}
}

// P8.1: Receive: which error comes first, and its edges.
func TestReceiveErrors(t *testing.T) {
	all := []api.Row{some("cup", most, 0, 0, 0)}
	gone := []api.Row{some("cup", 0, 0, most-1, 0)}
	for _, c := range []struct {
		l    []api.Row
		sku  string
		n    int
		want api.Errno
	}{
		{nil, "cup", 1, api.OK},
		{nil, "cup", most, api.OK},
		{nil, "cup", most + 1, api.ErrArg},
		{nil, "cup", 0, api.ErrArg},
		{nil, "cup", -1, api.ErrArg},
		{nil, "", 1, api.ErrArg},
		{nil, "Cup", 1, api.ErrArg},
		{all, "cup", 1, api.ErrOver},
		{all, "cup", most, api.ErrOver},
		{all, "cup", most + 1, api.ErrArg},
		{all, "cup", math.MaxInt, api.ErrArg},
		{all, "cup", 0, api.ErrArg},
		{all, "mug", most, api.OK},
		{gone, "cup", 1, api.OK},
		{gone, "cup", 2, api.ErrOver},
		{full(), "zz", 1, api.ErrFull},
		{full(), "a0", most, api.ErrFull},
		{full(), "00000", 1, api.ErrFull},
		{full(), "zz", 0, api.ErrArg},
		{full(), "zz", most + 1, api.ErrArg},
		{full(), "ZZ", 1, api.ErrArg},
		{full(), "z", 1, api.OK},
		{full(), "0", 1, api.OK},
		{full(), "z", most, api.ErrOver},
		{full()[:7], "z", 1, api.OK},
		{full()[1:], "0", most, api.OK},
	} {
		if l, e := stock.Receive(c.l, c.sku, c.n); e != c.want || e != api.OK && len(l) > 0 {
			t.Errorf("Receive(%v, %q, %d) = %v, %d; want %d", c.l, c.sku, c.n, l, e, c.want)
		}
	}
}

// P8.2: Hold, Release, Ship and Lose: which error comes first; that just what is there may go, and what stands elsewhere counts for nothing.
func TestMoveErrors(t *testing.T) {
	for _, c := range moves() {
		for _, there := range []int{0, 1, 2, 1000, most / 4} {
			n := [5]int{free: most / 4, held: most / 4, shipped: most / 4}
			n[c.from] = there
			n[in] = n[free] + n[held] + n[shipped]
			l := []api.Row{some("a", 5, 5, 5, 5), row("b", n), some("c", most/2, most/2, 0, 0)}
			for _, w := range []struct {
				sku  string
				n    int
				want api.Errno
			}{
				{"b", there + 1, api.ErrLack},
				{"b", most, api.ErrLack},
				{"b", most + 1, api.ErrArg},
				{"b", 0, api.ErrArg},
				{"b", -1, api.ErrArg},
				{"d", 1, api.ErrNone},
				{"d", most, api.ErrNone},
				{"d", most + 1, api.ErrArg},
				{"d", 0, api.ErrArg},
				{"", 1, api.ErrNone},
				{"B", most, api.ErrNone},
				{"B", 0, api.ErrArg},
			} {
				if got, e := c.do(l, w.sku, w.n); len(got) > 0 || e != w.want {
					t.Errorf("%s of %d %q, %d there: %v, %d; want %d", c.name, w.n, w.sku, there, got, e, w.want)
				}
			}
			if there > 0 {
				if _, e := moved(t, c, l, "b", there); e != api.OK {
					t.Errorf("%s of all %d tells %d", c.name, there, e)
				}
			}
		}
	}
}

// R3: no list is an empty one.
func TestNoListIsAnEmptyOne(t *testing.T) {
	for _, l := range [][]api.Row{nil, {}, make([]api.Row, 0, 5)} {
		if !stock.Right(l) {
			t.Error("an empty list may be")
		}
		each(t, l, "cup", 1)
		each(t, l, "", 1)
		each(t, l, "cup", 0)
		if got, e := stock.Receive(l, "cup", 3); e != api.OK || !slices.Equal(got, []api.Row{{Sku: "cup", In: 3, Free: 3}}) {
			t.Errorf("Receive = %v, %d", got, e)
		}
	}
}

// P8.3: what may be stays such, rows of other names stay, and nothing comes or goes but what comes in: all that calls come to, one behind the other.
func TestOneBehindTheOther(t *testing.T) {
	calls := append(moves(), call{"Receive", stock.Receive, in, free})
	type step struct {
		call
		sku string
		n   int
	}
	var steps []step
	for _, c := range calls {
		for _, sku := range []string{"b", "a"} {
			for n := 1; n < 3; n++ {
				steps = append(steps, step{c, sku, n})
			}
		}
	}
	seen := map[[2]api.Row]bool{}
	next := [][]api.Row{{some("a", 2, 0, 0, 0), some("b", 1, 1, 0, 0)}}
	for range 6 {
		var last [][]api.Row
		last, next = next, nil
		for _, l := range last {
			if seen[[2]api.Row(l)] {
				continue
			}
			seen[[2]api.Row(l)] = true
			for _, s := range steps {
				got, e := s.do(l, s.sku, s.n)
				if e != api.OK {
					continue
				}
				stays(t, l, got, s.call, s.sku, s.n)
				next = append(next, got)
			}
		}
	}
	if len(seen) < 1000 {
		t.Errorf("just %d states were come to", len(seen))
	}
}

// stays holds that stock behind a call may be, that other names' rows are as they were, and that of its own just n went, from one number to another one; of what came in, n more are in, and free.
func stays(t *testing.T, was, is []api.Row, c call, sku string, n int) {
	t.Helper()
	if !stock.Right(is) || len(is) != len(was) {
		t.Fatalf("%s of %d %s: %v come to %v", c.name, n, sku, was, is)
	}
	for i, r := range is {
		want := numbers(was[i])
		if r.Sku == sku {
			want[c.to] += n
			if c.from == in {
				want[in] += n
			} else {
				want[c.from] -= n
			}
		}
		if r != row(was[i].Sku, want) {
			t.Fatalf("%s of %d %s: %v come to %v", c.name, n, sku, was, is)
		}
	}
}

// P8.3: what is held, and released, is as it was; what is released, and held, too.
func TestHeldAndReleased(t *testing.T) {
	for name, l := range stockThatMayBe() {
		for _, r := range l {
			for _, n := range []int{1, 2, r.Free / 2, r.Free - 1, r.Free} {
				if n < 1 || n > r.Free {
					continue
				}
				back(t, name, l, r.Sku, n, stock.Hold, stock.Release)
			}
			for _, n := range []int{1, 2, r.Held / 2, r.Held - 1, r.Held} {
				if n < 1 || n > r.Held {
					continue
				}
				back(t, name, l, r.Sku, n, stock.Release, stock.Hold)
			}
		}
	}
}

// back holds that one call undoes another one.
func back(t *testing.T, name string, l []api.Row, sku string, n int, there, back func([]api.Row, string, int) ([]api.Row, api.Errno)) {
	t.Helper()
	one, e := there(l, sku, n)
	if e != api.OK || slices.Equal(one, l) {
		t.Fatalf("%s, %d %s: %v, %d", name, n, sku, one, e)
	}
	if two, e := back(one, sku, n); e != api.OK || !slices.Equal(two, l) {
		t.Fatalf("%s, %d %s, and back: %v, %d", name, n, sku, two, e)
	}
}

// P8.3: rows come into their places in whatever order they come in.
func TestInWhateverOrder(t *testing.T) {
	var want []api.Row
	for i, sku := range eight() {
		want = append(want, some(sku, i+1, 0, 0, 0))
	}
	for first := range 8 {
		for _, by := range []int{1, 3, 5, 7} {
			var l []api.Row
			for i := range 8 {
				at := (first + i*by) % 8
				l, _ = received(t, l, eight()[at], at+1)
			}
			if !slices.Equal(l, want) {
				t.Errorf("from %d on, by %d: %v", first, by, l)
			}
		}
	}
}

// P8.3: what came in bit by bit is what came in at once, up to the last unit.
func TestBitByBit(t *testing.T) {
	var l []api.Row
	for bit := 1; bit < most; bit *= 2 {
		l, _ = received(t, l, "cup", bit)
	}
	if !slices.Equal(l, []api.Row{some("cup", most-1, 0, 0, 0)}) {
		t.Fatalf("it comes to %v", l)
	}
	if _, e := received(t, l, "cup", 2); e != api.ErrOver {
		t.Errorf("two more tell %d", e)
	}
	l, _ = received(t, l, "cup", 1)
	l, e := stock.Lose(l, "cup", most)
	if e != api.OK || !slices.Equal(l, []api.Row{some("cup", 0, 0, 0, most)}) {
		t.Fatalf("all are lost: %v, %d", l, e)
	}
	if _, e := received(t, l, "cup", 1); e != api.ErrOver {
		t.Errorf("one more, when none is there, tells %d", e)
	}
}

// R4, and the language's rule of new memory: no list that is handed in is changed, not even behind its end, and none that is answered is a part of one.
func TestListsStay(t *testing.T) {
	calls := append(moves(), call{"Receive", stock.Receive, in, free})
	calls = append(calls, call{"Right", func(l []api.Row, _ string, _ int) ([]api.Row, api.Errno) { stock.Right(l); return nil, api.OK }, 0, 0})
	calls = append(calls, call{"Get", func(l []api.Row, sku string, _ int) ([]api.Row, api.Errno) {
		_, e := stock.Get(l, sku)
		return nil, e
	}, 0, 0})
	for _, c := range calls {
		for name, l := range stockThatMayBe() {
			for _, sku := range append(eight(), "cup", "000", "zz") {
				for _, n := range []int{1, most} {
					tail := append(slices.Clone(l), api.Row{In: 77}, api.Row{In: 77}, api.Row{In: 77})
					handed := slices.Clone(tail)[:len(l)]
					answer, _ := c.do(handed, sku, n)
					for i := range answer[:cap(answer)] {
						answer[:cap(answer)][i] = api.Row{Sku: "overwritten"}
					}
					if !slices.Equal(handed[:len(tail)], tail) {
						t.Fatalf("%s of %d %s changes %s", c.name, n, sku, name)
					}
				}
			}
		}
	}
}

// R1: calls that run side by side, or one behind the other, know nothing of each other.
func TestNothingIsKept(t *testing.T) {
	l := full()
	var all sync.WaitGroup
	for i := range 16 {
		all.Go(func() {
			sku := eight()[i%8]
			for range 50 {
				for _, c := range moves() {
					want, _ := moveAnswer(c, l, sku, 1)
					if got, e := c.do(l, sku, 1); e != api.OK || !slices.Equal(got, want) {
						t.Errorf("%d: %s = %v, %d", i, c.name, got, e)
					}
				}
				want, _ := receiveAnswer(l, sku, i+1)
				if got, e := stock.Receive(l, sku, i+1); e != api.OK || !slices.Equal(got, want) {
					t.Errorf("%d: Receive = %v, %d", i, got, e)
				}
				if r, e := stock.Get(l, sku); e != api.OK || r != l[i%8] {
					t.Errorf("%d: Get = %v, %d", i, r, e)
				}
				if !stock.Right(l) || stock.Right([]api.Row{l[1], l[0]}) {
					t.Errorf("%d: Right", i)
				}
			}
		})
	}
	all.Wait()
}
