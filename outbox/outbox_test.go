package outbox_test

import (
	"math"
	"slices"
	"sync"
	"testing"

	"tarry/api"
	"tarry/outbox"
)

// The chapter's example.
func TestExample(t *testing.T) {
	b, key, e := outbox.Put(api.Outbox{}, api.OShip, 7, 0)
	if key != 1 || e != api.OK {
		t.Fatal(key, e)
	}
	for _, c := range []struct {
		now  int
		want []api.Out
	}{
		{0, []api.Out{out(1, api.OShip, 7, 0)}},
		{5, nil},
		{10, []api.Out{out(1, api.OShip, 7, 10)}},
	} {
		var got []api.Out
		b, got, e = outbox.Tell(b, c.now)
		if e != api.OK || !slices.Equal(got, c.want) {
			t.Errorf("Tell %d = %v, %d; want %v", c.now, got, e, c.want)
		}
	}
}

// P14.1 and P14.2: all calls, written out, each behind the one ahead.
func TestCalls(t *testing.T) {
	var b api.Outbox
	for _, c := range []struct {
		name string
		do   func(b api.Outbox) (api.Outbox, any, api.Errno)
		want api.Outbox
		got  any
	}{
		{"Put to ship", puts(api.OShip, 7, 3), box(out(1, 1, 7, 3)), 1},
		{"Put to renew", puts(api.ORenew, 7, 0), box(out(1, 1, 7, 3), out(2, 2, 7, 0)), 2},
		{"Put to ask", puts(api.OAsk, 5, 12), box(out(1, 1, 7, 3), out(2, 2, 7, 0), out(3, 3, 5, 12)), 3},
		{"Done of the second one", does(2), box(out(1, 1, 7, 3), out(3, 3, 5, 12)), out(2, 2, 7, 0)},
		{"Put to renew again", puts(api.ORenew, 7, 4), box(out(1, 1, 7, 3), out(3, 3, 5, 12), out(4, 2, 7, 4)), 4},
		{"Tell 3", tells(3), box(out(1, 1, 7, 13), out(3, 3, 5, 12), out(4, 2, 7, 4)), [4]api.Out{out(1, 1, 7, 3)}},
		{"Tell 12", tells(12), box(out(1, 1, 7, 13), out(3, 3, 5, 22), out(4, 2, 7, 22)), [4]api.Out{out(3, 3, 5, 12), out(4, 2, 7, 4)}},
		{"Tell 12 again", tells(12), box(out(1, 1, 7, 13), out(3, 3, 5, 22), out(4, 2, 7, 22)), [4]api.Out{}},
		{"Done of the last one", does(4), api.Outbox{Last: 4, Rows: []api.Out{out(1, 1, 7, 13), out(3, 3, 5, 22)}}, out(4, 2, 7, 22)},
		{"Tell 40", tells(40), api.Outbox{Last: 4, Rows: []api.Out{out(1, 1, 7, 50), out(3, 3, 5, 50)}}, [4]api.Out{out(1, 1, 7, 13), out(3, 3, 5, 22)}},
		{"Done of the first one", does(1), api.Outbox{Last: 4, Rows: []api.Out{out(3, 3, 5, 50)}}, out(1, 1, 7, 50)},
		{"Done of the one left", does(3), api.Outbox{Last: 4}, out(3, 3, 5, 50)},
		{"Tell none", tells(90), api.Outbox{Last: 4}, [4]api.Out{}},
		{"Put to ship again", puts(api.OShip, 7, 41), api.Outbox{Last: 5, Rows: []api.Out{out(5, 1, 7, 41)}}, 5},
	} {
		after, got, e := c.do(b)
		if e != api.OK || got != c.got || !same(after, c.want) || !outbox.Right(after) {
			t.Fatalf("%s: %v, %v, %d; want %v, %v", c.name, after, got, e, c.want, c.got)
		}
		b = after
	}
}

func puts(kind, order, now int) func(api.Outbox) (api.Outbox, any, api.Errno) {
	return func(b api.Outbox) (api.Outbox, any, api.Errno) {
		after, key, e := outbox.Put(b, kind, order, now)
		return after, key, e
	}
}

func does(key int) func(api.Outbox) (api.Outbox, any, api.Errno) {
	return func(b api.Outbox) (api.Outbox, any, api.Errno) {
		after, x, e := outbox.Done(b, key)
		return after, x, e
	}
}

// tells answers up to four that are told.
func tells(now int) func(api.Outbox) (api.Outbox, any, api.Errno) {
	return func(b api.Outbox) (api.Outbox, any, api.Errno) {
		after, l, e := outbox.Tell(b, now)
		return after, [4]api.Out(append(slices.Clone(l), make([]api.Out, 4-len(l))...)), e
	}
}

// Errors are those numbers.
func TestErrorsNumbers(t *testing.T) {
	one, full := box(out(1, 1, 1, 0)), box(ofOneKind(1, 96, 0)...)
	for _, c := range []struct {
		name string
		b    api.Outbox
		want api.Errno
	}{
		{"a kind of 4", api.Outbox{}, 1},
		{"96 are told", full, 7},
		{"all keys are given", api.Outbox{Last: most}, 7},
		{"it is told", one, 9},
	} {
		kind := 1
		if c.want == 1 {
			kind = 4
		}
		order := 5000
		if c.want == 9 {
			order = 1
		}
		if _, _, e := outbox.Put(c.b, kind, order, 0); e != c.want {
			t.Errorf("%s: Put tells %d; want %d", c.name, e, c.want)
		}
	}
	if _, _, e := outbox.Done(one, 2); e != 8 {
		t.Errorf("Done of what is not there tells %d; want 8", e)
	}
	if _, e := outbox.Find(one, 2, 1); e != 8 {
		t.Errorf("Find of what is not there tells %d; want 8", e)
	}
	if _, _, e := outbox.Tell(one, -1); e != 1 {
		t.Errorf("Tell -1 tells %d; want 1", e)
	}
}

// P14.1: Right: what may be, and what may not.
func TestRight(t *testing.T) {
	for name, b := range boxesThatMayBe() {
		if !isOutbox(b) || !outbox.Right(b) {
			t.Errorf("%s may be: %v", name, b)
		}
	}
	for name, b := range boxesThatMayNotBe() {
		if isOutbox(b) || outbox.Right(b) {
			t.Errorf("%s may not be: %v", name, b)
		}
	}
}

// P14.1: Right, of a row alone and among others, of which one number is another one.
func TestRightOfNumbers(t *testing.T) {
	right := 0
	for _, x := range []api.Out{out(1, 1, 1, 0), out(most, 3, most, most), out(50, 2, 50, 50)} {
		for _, x := range besides(x) {
			for _, b := range []api.Outbox{
				{Last: most, Rows: []api.Out{x}},
				box(out(1, 2, 77, 5), x),
				{Last: most, Rows: []api.Out{x, out(most, 2, 77, 5)}},
				{Last: 96, Rows: []api.Out{out(2, 2, 77, 5), x, out(95, 3, 77, 5)}},
			} {
				if outbox.Right(b) != isOutbox(b) {
					t.Errorf("Right(%v) = %v", b, outbox.Right(b))
				}
				if isOutbox(b) {
					right++
				}
			}
		}
	}
	if right < 50 {
		t.Errorf("just %d of them may be", right)
	}
}

// P14.1: Right, of an outbox two of whose rows, side by side or far apart, are turned about, or are of one kind and order, or of one key.
func TestRightAtEachPlace(t *testing.T) {
	for name, b := range boxesThatMayBe() {
		for i := range b.Rows {
			for k := range i {
				turned, ofOne, oneKey := slices.Clone(b.Rows), slices.Clone(b.Rows), slices.Clone(b.Rows)
				turned[i], turned[k] = turned[k], turned[i]
				ofOne[i].Kind, ofOne[i].Order = b.Rows[k].Kind, b.Rows[k].Order
				oneKey[i].Key = b.Rows[k].Key
				for _, l := range [][]api.Out{turned, ofOne, oneKey} {
					if outbox.Right(api.Outbox{Last: b.Last, Rows: l}) {
						t.Fatalf("%s, with %d and %d so, may not be: %v", name, i, k, l)
					}
				}
			}
		}
	}
}

// P14.1: Right: Last, at its bounds and at the greatest key.
func TestRightOfLast(t *testing.T) {
	for name, b := range boxesThatMayBe() {
		greatest := 0
		for _, x := range b.Rows {
			greatest = x.Key
		}
		for _, last := range append(edges(), greatest-1, greatest, greatest+1) {
			want := greatest <= last && 0 <= last && last <= most
			if outbox.Right(api.Outbox{Last: last, Rows: b.Rows}) != want {
				t.Errorf("%s, Last %d: Right = %v", name, last, !want)
			}
		}
	}
}

// P14.1 and P14.2: all calls refuse an outbox that may not be, whatever else is amiss.
func TestBoxesThatMayNotBe(t *testing.T) {
	for name, b := range boxesThatMayNotBe() {
		for _, x := range append(slices.Clone(b.Rows), out(5, 1, 7000, 5), out(-1, 9, 0, -1), api.Out{}) {
			if got, key, e := outbox.Put(b, x.Kind, x.Order, x.Due); !same(got, api.Outbox{}) || key != 0 || e != api.ErrArg {
				t.Fatalf("%s: Put of %v = %v, %d, %d", name, x, got, key, e)
			}
			if got, y, e := outbox.Done(b, x.Key); !same(got, api.Outbox{}) || y != (api.Out{}) || e != api.ErrArg {
				t.Fatalf("%s: Done of %v = %v, %v, %d", name, x, got, y, e)
			}
			if y, e := outbox.Find(b, x.Kind, x.Order); y != (api.Out{}) || e != api.ErrArg {
				t.Fatalf("%s: Find of %v = %v, %d", name, x, y, e)
			}
			if got, l, e := outbox.Tell(b, x.Due); !same(got, api.Outbox{}) || len(l) > 0 || e != api.ErrArg {
				t.Fatalf("%s: Tell at %d = %v, %v, %d", name, x.Due, got, l, e)
			}
		}
	}
}

// P14.1: Put: the edges of what is handed, alone and together; ErrArg is told ahead of ErrTwice and ErrFull.
func TestPutOfNumbers(t *testing.T) {
	kinds := []int{math.MinInt, -1, 0, 1, 2, 3, 4, 1 << 32, 1<<32 + 1, math.MaxInt}
	for name, b := range boxesThatMayBe() {
		for _, kind := range kinds {
			for _, order := range edges() {
				for _, now := range []int{math.MinInt, -1, 0, 1, most, most + 1, math.MaxInt} {
					_, _, e := put(t, b, kind, order, now)
					may := 1 <= kind && kind <= 3 && 1 <= order && order <= most && 0 <= now && now <= most
					if may != (e != api.ErrArg) {
						t.Fatalf("%s: Put %d, %d, %d tells %d", name, kind, order, now, e)
					}
				}
			}
		}
	}
}

// P14.1: Put: what is told is refused, also ahead of there being 96, or no key more; once done, it is told again.
func TestPutTwice(t *testing.T) {
	for name, b := range boxesThatMayBe() {
		for i, x := range b.Rows {
			if _, _, e := put(t, b, x.Kind, x.Order, 0); e != api.ErrTwice {
				t.Fatalf("%s: Put of %d again tells %d", name, i, e)
			}
			rest, _, _ := done(t, b, x.Key)
			_, key, e := put(t, rest, x.Kind, x.Order, 0)
			if b.Last == most && e != api.ErrFull || b.Last < most && (key != b.Last+1 || e != api.OK) {
				t.Fatalf("%s: Put of %d, when it was done, is %d, %d", name, i, key, e)
			}
		}
	}
}

// P14.1: Put: 96 are told, and no more; when one is done, there is room for one.
func TestFull(t *testing.T) {
	var b api.Outbox
	for i := range 96 {
		var e api.Errno
		if b, _, e = put(t, b, 1+i%3, 1+i/3, i); e != api.OK || len(b.Rows) != i+1 {
			t.Fatalf("Put of %d tells %d", i, e)
		}
	}
	for kind := 1; kind <= 3; kind++ {
		if _, _, e := put(t, b, kind, 5000, 0); e != api.ErrFull {
			t.Errorf("Put of one more tells %d", e)
		}
	}
	for key := 1; key <= 96; key++ {
		rest, _, _ := done(t, b, key)
		if again, got, e := put(t, rest, 1, 5000, 3); e != api.OK || got != 97 || again.Rows[95] != out(97, 1, 5000, 3) {
			t.Errorf("Put instead of %d is %v, %d, %d", key, again, got, e)
		}
	}
}

// P14.1: Put: keys go up to 2^40, and there is none behind it, also if none is told.
func TestLastKey(t *testing.T) {
	for _, b := range []api.Outbox{{Last: most - 1}, {Last: most - 1, Rows: []api.Out{out(3, 2, 9, 1)}}} {
		b, key, e := put(t, b, api.OShip, 1, most)
		if key != most || e != api.OK {
			t.Fatalf("the last key is %d, %d", key, e)
		}
		if _, _, e := put(t, b, api.ORenew, 1, most); e != api.ErrFull {
			t.Errorf("one more tells %d", e)
		}
		b, _, _ = done(t, b, most)
		if _, _, e := put(t, b, api.OShip, 1, most); e != api.ErrFull || b.Last != most {
			t.Errorf("one more, when it is done, tells %d", e)
		}
	}
}

// P14.1: Done: each is taken out alone, wherever it stands; of another key, there is none.
func TestDone(t *testing.T) {
	for name, b := range boxesThatMayBe() {
		keys := map[int]int{}
		for i, x := range b.Rows {
			keys[x.Key]++
			rest, got, e := done(t, b, x.Key)
			if e != api.OK || got != x || rest.Last != b.Last || !slices.Equal(rest.Rows, slices.Concat(b.Rows[:i], b.Rows[i+1:])) {
				t.Errorf("%s: Done of %d = %v, %v, %d", name, i, rest, got, e)
			}
		}
		for _, key := range append(edges(), b.Last, b.Last+1) {
			if _, _, e := done(t, b, key); keys[key] == 0 && e != api.ErrNone {
				t.Errorf("%s: Done of key %d tells %d", name, key, e)
			}
		}
	}
}

// P14.1: Find: each is found by its kind and order; of other ones, and of such as may not be, there is none.
func TestFind(t *testing.T) {
	for name, b := range boxesThatMayBe() {
		of := map[[2]int]int{}
		for i, x := range b.Rows {
			of[[2]int{x.Kind, x.Order}]++
			if got, e := found(t, b, x.Kind, x.Order); got != x || e != api.OK {
				t.Errorf("%s: Find of %d = %v, %d", name, i, got, e)
			}
		}
		for _, order := range edges() {
			for _, kind := range append(edges(), 1, 2, 3) {
				if got, e := found(t, b, kind, order); of[[2]int{kind, order}] == 0 && (got != api.Out{} || e != api.ErrNone) {
					t.Errorf("%s: Find of %d, %d = %v, %d", name, kind, order, got, e)
				}
			}
		}
	}
}

// P14.2: Tell: at each time at which one is due, and beside it, and at all edges.
func TestTell(t *testing.T) {
	for name, b := range boxesThatMayBe() {
		times := edges()
		for _, x := range b.Rows {
			times = append(times, x.Due-1, x.Due, x.Due+1)
		}
		for _, now := range times {
			later, l, e := told(t, b, now)
			if (e == api.OK) != (0 <= now && now <= most) {
				t.Errorf("%s: Tell %d tells %d", name, now, e)
			}
			if e == api.OK && (later.Last != b.Last || len(later.Rows) != len(b.Rows) || len(l) > len(b.Rows)) {
				t.Errorf("%s: Tell %d = %v, %v", name, now, later, l)
			}
		}
	}
}

// P14.2: Tell: it is due 10 ticks behind now, however long ago it was due, and at 2^40 at most.
func TestToldAgain(t *testing.T) {
	for _, c := range []struct{ due, now, again int }{
		{0, 0, 10}, {0, 1, 11}, {0, 9, 19}, {0, 10, 20}, {0, 999, 1009}, {7, 7, 17}, {7, 8, 18}, {7, 6, 7}, {7, 0, 7},
		{0, most, most}, {0, most - 1, most}, {0, most - 9, most}, {0, most - 10, most}, {0, most - 11, most - 1},
		{most, most, most}, {most, most - 1, most}, {most - 1, most - 1, most}, {most - 20, most - 20, most - 10},
	} {
		b := box(out(4, 2, 9, c.due))
		later, l, e := told(t, b, c.now)
		if e != api.OK || !same(later, box(out(4, 2, 9, c.again))) {
			t.Errorf("Tell %d of what is due at %d: %v, %d; want %d", c.now, c.due, later, e, c.again)
		}
		if is := slices.Equal(l, b.Rows); is != (c.due <= c.now) {
			t.Errorf("Tell %d of what is due at %d: %v", c.now, c.due, l)
		}
	}
}

// P1, P14.1 and P14.2: all calls, at all edges of all that they are handed.
func TestAllCallsAtEdges(t *testing.T) {
	for _, b := range boxesThatMayBe() {
		for _, x := range besides(out(1, 1, 1, 0)) {
			each(t, b, x)
		}
		for i := 0; i < len(b.Rows); i += 9 {
			for _, x := range besides(b.Rows[i]) {
				each(t, b, x)
			}
		}
	}
	for _, b := range boxesThatMayNotBe() {
		for _, x := range besides(out(2, 2, 2, 2)) {
			each(t, b, x)
		}
	}
}

// P14.1 and P14.2: all calls, of all rows of few, with some that may not be among them.
func TestAllRowsOfFew(t *testing.T) {
	few := []api.Out{out(1, 1, 1, 1), out(2, 2, 1, 1), out(2, 1, 2, 3), out(3, 1, 1, 1), out(4, 3, 2, 0), out(5, 2, 2, 11), out(6, 4, 2, 5)}
	right := 0
	for _, l := range rows(few, 4) {
		for _, last := range []int{3, 5, 6} {
			b := api.Outbox{Last: last, Rows: l}
			if isOutbox(b) {
				right++
			}
			for _, x := range few {
				each(t, b, x)
			}
		}
	}
	if right < 40 {
		t.Errorf("just %d of them may be", right)
	}
}

// P14.3: what may be stays such; keys are never given twice; what is done is done once: all calls in turns.
func TestInTurns(t *testing.T) {
	var b api.Outbox
	given, ended, errs, none := map[int]int{}, map[int]int{}, map[api.Errno]int{}, 0
	seed := uint32(1)
	for i := range 12000 {
		seed = seed*1664525 + 1013904223
		n := int(seed >> 16)
		var e api.Errno
		switch turn := i % 2000; {
		case n%10 == 0:
			b, _, e = told(t, b, i)
		case turn < 1000 && n%16 > 0 || n%16 == 0:
			var after api.Outbox
			var key int
			if after, key, e = put(t, b, 1+n%3, 1+n/3%40, i); e == api.OK {
				given[key]++
				b = after
			}
		default:
			var after api.Outbox
			var x api.Out
			key := keyAround(b, n)
			if after, x, e = done(t, b, key); e == api.OK {
				ended[x.Key]++
				b = after
			}
		}
		errs[e]++
		if len(b.Rows) == 0 {
			none++
		}
	}
	for key, n := range given {
		if n != 1 || ended[key] > 1 {
			t.Errorf("key %d was given %d times, and done %d times", key, n, ended[key])
		}
	}
	if len(given) != b.Last || len(given)-len(ended) != len(b.Rows) {
		t.Errorf("%d were given, the last one %d; %d are done, %d told still", len(given), b.Last, len(ended), len(b.Rows))
	}
	for _, e := range []api.Errno{api.OK, api.ErrFull, api.ErrNone, api.ErrTwice} {
		if errs[e] < 20 {
			t.Errorf("error %d was told just %d times", e, errs[e])
		}
	}
	if none < 20 {
		t.Errorf("none was told just %d times", none)
	}
}

// keyAround is a key that is told, or was, or is none.
func keyAround(b api.Outbox, n int) int {
	if n%4 == 0 || len(b.Rows) == 0 {
		return b.Last + 2 - n%130
	}
	return b.Rows[n/4%len(b.Rows)].Key
}

// P14.3: what is done is not found, told or done again.
func TestDoneOnce(t *testing.T) {
	for name, b := range boxesThatMayBe() {
		for _, x := range b.Rows {
			rest, _, _ := done(t, b, x.Key)
			if _, _, e := done(t, rest, x.Key); e != api.ErrNone {
				t.Fatalf("%s: Done of %v again tells %d", name, x, e)
			}
			if _, e := found(t, rest, x.Kind, x.Order); e != api.ErrNone {
				t.Fatalf("%s: Find of %v, when it is done, tells %d", name, x, e)
			}
			if _, l, _ := told(t, rest, most); slices.Contains(l, x) || len(l) != len(b.Rows)-1 {
				t.Fatalf("%s: %v is told, when it is done", name, x)
			}
		}
	}
}

// P14.3: what is not done is told when it is put, then again at the latest every 10 ticks, and no sooner, whatever times are told between.
func TestToldEachTenTicks(t *testing.T) {
	for _, apart := range []int{1, 2, 3, 7, 10, 11, 30} {
		var b api.Outbox
		last, seed := map[int]int{}, uint32(apart)
		for now := 0; now < 600; now += apart {
			seed = seed*1664525 + 1013904223
			if n := int(seed >> 16); n%2 == 0 {
				var key int
				if b, key, _ = outbox.Put(b, 1+n%3, 1+now, now); key == 0 {
					t.Fatal("it is not put")
				}
				last[key] = now - 10
			} else if len(b.Rows) > 5 {
				b, _, _ = done(t, b, b.Rows[n%len(b.Rows)].Key)
			}
			var l []api.Out
			b, l, _ = told(t, b, now)
			for _, x := range b.Rows {
				isTold := slices.ContainsFunc(l, func(other api.Out) bool { return other.Key == x.Key })
				if isTold != (now-last[x.Key] >= 10) {
					t.Fatalf("Tell %d: %v, last told at %d: %v", now, x, last[x.Key], isTold)
				}
				if isTold {
					last[x.Key] = now
				}
			}
		}
		if len(last) < 5 {
			t.Errorf("just %d were put", len(last))
		}
	}
}

// R3: no list is an empty one.
func TestNoListIsAnEmptyOne(t *testing.T) {
	for _, l := range [][]api.Out{nil, {}, make([]api.Out, 0, 5)} {
		for _, last := range []int{-1, 0, 1, most, most + 1} {
			b := api.Outbox{Last: last, Rows: l}
			if outbox.Right(b) != isTick(last) {
				t.Errorf("Last %d: Right = %v", last, !isTick(last))
			}
			for _, x := range []api.Out{out(1, 1, 1, 0), out(0, 0, 0, 0), out(1, 3, most, most)} {
				each(t, b, x)
			}
		}
	}
}

// R4, and the language's rule of new memory: no list that is handed in is changed, not even behind its end, and none that is answered is a part of it, or of another one that is answered.
func TestListsStay(t *testing.T) {
	spoiled, scribbled := out(-7, 7, -7, -7), out(-8, 8, -8, -8)
	calls := map[string]func(b api.Outbox, x api.Out) [][]api.Out{
		"Right": func(b api.Outbox, _ api.Out) [][]api.Out { outbox.Right(b); return nil },
		"Put": func(b api.Outbox, x api.Out) [][]api.Out {
			got, _, _ := outbox.Put(b, x.Kind, 5000, 3)
			return [][]api.Out{got.Rows}
		},
		"Done": func(b api.Outbox, x api.Out) [][]api.Out {
			got, _, _ := outbox.Done(b, x.Key)
			return [][]api.Out{got.Rows}
		},
		"Find": func(b api.Outbox, x api.Out) [][]api.Out { outbox.Find(b, x.Kind, x.Order); return nil },
		"Tell": func(b api.Outbox, x api.Out) [][]api.Out {
			got, l, _ := outbox.Tell(b, x.Due)
			return [][]api.Out{got.Rows, l}
		},
		"Tell, all": func(b api.Outbox, x api.Out) [][]api.Out {
			got, l, _ := outbox.Tell(b, most)
			return [][]api.Out{got.Rows, l}
		},
	}
	for call, do := range calls {
		for name, b := range boxesThatMayBe() {
			for _, x := range append(slices.Clone(b.Rows), spoiled, out(1, 1, 1, 0)) {
				tail := append(slices.Clone(b.Rows), spoiled, spoiled, spoiled)
				handed := slices.Clone(tail)
				answers := do(api.Outbox{Last: b.Last, Rows: handed[:len(b.Rows)]}, x)
				want := make([][]api.Out, len(answers))
				for i, answer := range answers {
					want[i] = slices.Clone(answer)
				}
				for i, answer := range answers {
					if !slices.Equal(answer, want[i]) {
						t.Fatalf("%s, of %v and %s: two answers share", call, x, name)
					}
					for k := range answer[:cap(answer)] {
						answer[:cap(answer)][k] = scribbled
					}
				}
				if !slices.Equal(handed, tail) {
					t.Fatalf("%s, of %v, changes %s", call, x, name)
				}
			}
		}
	}
}

// R1: calls that run side by side, or one behind the other, know nothing of each other.
func TestNothingIsKept(t *testing.T) {
	b := box(many(21, 90)...)
	var all sync.WaitGroup
	for i := range 16 {
		all.Go(func() {
			x := b.Rows[i*5]
			put, key, _ := putAnswer(b, 1+i%3, 5000+i, i)
			done, _, _ := doneAnswer(b, x.Key)
			later, told, _ := tellAnswer(b, 3*i)
			for range 40 {
				a, k, _ := outbox.Put(b, 1+i%3, 5000+i, i)
				c, y, _ := outbox.Done(b, x.Key)
				z, _ := outbox.Find(b, x.Kind, x.Order)
				d, l, _ := outbox.Tell(b, 3*i)
				if !same(a, put) || k != key || !same(c, done) || y != x || z != x || !same(d, later) || !slices.Equal(l, told) {
					t.Error("a call answers something else")
					return
				}
			}
		})
	}
	all.Wait()
}
