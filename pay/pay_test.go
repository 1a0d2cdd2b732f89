package pay_test

import (
	"math"
	"sync"
	"testing"

	"tarry/api"
	"tarry/pay"
)

// The chapter's example.
func TestExample(t *testing.T) {
	p, e := pay.New(3, 5, 20)
	if e != api.OK {
		t.Fatal(e)
	}
	if p, e = pay.Catch(p, 10); e != api.OK || p.Caught != 10 || p.Amount != 15 {
		t.Errorf("Catch = %v, %d", p, e)
	}
}

// P11.1 and P11.2: all calls in turn, written out.
func TestCalls(t *testing.T) {
	p, e := pay.New(3, 5, 20)
	if e != api.OK || p != (api.Pay{Amount: 15, Caught: 0, Until: 20, State: api.PGood}) {
		t.Fatalf("New = %v, %d", p, e)
	}
	lapse := func(now int) func(api.Pay) (api.Pay, api.Errno) {
		return func(p api.Pay) (api.Pay, api.Errno) { p, _, e := pay.Lapse(p, now); return p, e }
	}
	renew := func(until int) func(api.Pay) (api.Pay, api.Errno) {
		return func(p api.Pay) (api.Pay, api.Errno) { return pay.Renew(p, until) }
	}
	catch := func(n int) func(api.Pay) (api.Pay, api.Errno) {
		return func(p api.Pay) (api.Pay, api.Errno) { return pay.Catch(p, n) }
	}
	for _, c := range []struct {
		name string
		do   func(api.Pay) (api.Pay, api.Errno)
		want api.Pay
		e    api.Errno
	}{
		{"Catch 4", catch(4), money(15, 4, 20, api.PGood), api.OK},
		{"Catch 12", catch(12), api.Pay{}, api.ErrOver},
		{"Catch none", catch(0), money(15, 4, 20, api.PGood), api.OK},
		{"Renew, as it holds", renew(50), api.Pay{}, api.ErrState},
		{"Lapse ahead of its time", lapse(19), money(15, 4, 20, api.PGood), api.OK},
		{"Lapse at its time", lapse(20), money(15, 4, 20, api.PRenew), api.OK},
		{"Lapse again", lapse(21), money(15, 4, 20, api.PRenew), api.OK},
		{"Catch 5, as it lapsed", catch(5), money(15, 9, 20, api.PRenew), api.OK},
		{"Renew until no time", renew(-1), api.Pay{}, api.ErrArg},
		{"Renew", renew(30), money(15, 9, 30, api.PGood), api.OK},
		{"Renew again", renew(40), api.Pay{}, api.ErrState},
		{"Lapse behind its time", lapse(99), money(15, 9, 30, api.PRenew), api.OK},
		{"Renew until the past", renew(3), money(15, 9, 3, api.PGood), api.OK},
		{"Catch the rest", catch(6), money(15, 15, 3, api.PGood), api.OK},
		{"Catch one more", catch(1), api.Pay{}, api.ErrOver},
		{"Close", pay.Close, money(15, 15, 3, api.PClosed), api.OK},
		{"Close again", pay.Close, api.Pay{}, api.ErrState},
		{"Lapse, as it is closed", lapse(99), money(15, 15, 3, api.PClosed), api.OK},
		{"Renew, as it is closed", renew(99), api.Pay{}, api.ErrState},
		{"Catch none, as it is closed", catch(0), api.Pay{}, api.ErrState},
	} {
		got, e := c.do(p)
		if got != c.want || e != c.e {
			t.Fatalf("%s: %v, %d; want %v, %d", c.name, got, e, c.want, c.e)
		}
		if e == api.OK {
			p = got
		}
	}
}

// P11.1: New: what it is, and which error comes first.
func TestNew(t *testing.T) {
	for _, c := range []struct {
		units, price, until int
		want                api.Pay
		e                   api.Errno
	}{
		{1, 1, 0, money(1, 0, 0, api.PGood), api.OK},
		{3, 5, 7, money(15, 0, 7, api.PGood), api.OK},
		{1 << 30, 1, 1 << 40, money(1<<30, 0, 1<<40, api.PGood), api.OK},
		{1, 1 << 30, 9, money(1<<30, 0, 9, api.PGood), api.OK},
		{1 << 30, 1 << 20, 9, money(1<<50, 0, 9, api.PGood), api.OK},
		{1 << 20, 1 << 30, 9, money(1<<50, 0, 9, api.PGood), api.OK},
		{1 << 25, 1 << 25, 9, money(1<<50, 0, 9, api.PGood), api.OK},
		{1<<25 - 1, 1<<25 + 1, 9, money(1<<50-1, 0, 9, api.PGood), api.OK},

		{1342505, 838656025, 9, api.Pay{}, api.ErrOver}, // 2^50 + 1
		{1 << 30, 1<<20 + 1, 9, api.Pay{}, api.ErrOver},
		{1<<20 + 1, 1 << 30, 9, api.Pay{}, api.ErrOver},
		{1<<25 + 1, 1 << 25, 9, api.Pay{}, api.ErrOver},
		{1 << 30, 1 << 30, 1 << 40, api.Pay{}, api.ErrOver},
		{1<<30 - 1, 1 << 30, 0, api.Pay{}, api.ErrOver},

		{0, 5, 7, api.Pay{}, api.ErrArg},
		{5, 0, 7, api.Pay{}, api.ErrArg},
		{-1, 5, 7, api.Pay{}, api.ErrArg},
		{5, -1, 7, api.Pay{}, api.ErrArg},
		{-3, -5, 7, api.Pay{}, api.ErrArg},
		{1<<30 + 1, 1, 7, api.Pay{}, api.ErrArg},
		{1, 1<<30 + 1, 7, api.Pay{}, api.ErrArg},
		{3, 5, -1, api.Pay{}, api.ErrArg},
		{3, 5, 1<<40 + 1, api.Pay{}, api.ErrArg},
		{1 << 30, 1 << 30, -1, api.Pay{}, api.ErrArg},
		{1 << 30, 1 << 30, 1<<40 + 1, api.Pay{}, api.ErrArg},
		{1<<30 + 1, 1 << 30, 7, api.Pay{}, api.ErrArg},
		{1 << 32, 1 << 32, 7, api.Pay{}, api.ErrArg},
		{math.MaxInt, math.MaxInt, math.MaxInt, api.Pay{}, api.ErrArg},
		{math.MinInt, math.MinInt, math.MinInt, api.Pay{}, api.ErrArg},
	} {
		if got, e := pay.New(c.units, c.price, c.until); got != c.want || e != c.e {
			t.Errorf("New(%d, %d, %d) = %v, %d; want %v, %d", c.units, c.price, c.until, got, e, c.want, c.e)
		}
	}
}

// P11.1: New at all edges, and about the greatest Amount.
func TestNewAtEdges(t *testing.T) {
	for _, units := range edges() {
		for _, price := range edges() {
			for _, until := range edges() {
				made(t, units, price, until)
			}
		}
	}
	told := map[api.Errno]int{}
	for units := mostUnits; units > 1; units = units*2/3 - 1 {
		for _, price := range beside(mostMoney/units, mostUnits) {
			_, e := made(t, units, price, 7)
			told[e]++
			made(t, price, units, mostTick)
		}
	}
	if told[api.OK] < 20 || told[api.ErrOver] < 20 || told[api.ErrArg] < 20 {
		t.Errorf("told: %v", told)
	}
}

// P11.1: Right: money that may be, and that may not.
func TestRight(t *testing.T) {
	for _, p := range moneyThatMayBe() {
		if !isMoney(p) || !pay.Right(p) {
			t.Errorf("it may be: %v", p)
		}
	}
	for _, p := range moneyThatMayNotBe() {
		if isMoney(p) || pay.Right(p) {
			t.Errorf("it may not be: %v", p)
		}
	}
}

// P11.1: Good: it holds until its time, and not at it; of other states, or if it may not be, at none.
func TestGood(t *testing.T) {
	for _, c := range []struct {
		p    api.Pay
		now  int
		want bool
	}{
		{money(15, 0, 20, api.PGood), 19, true},
		{money(15, 0, 20, api.PGood), 20, false},
		{money(15, 0, 20, api.PGood), 21, false},
		{money(15, 15, 20, api.PGood), 19, true},
		{money(0, 0, 1, api.PGood), 0, true},
		{money(0, 0, 0, api.PGood), 0, false},
		{money(0, 0, 0, api.PGood), -1, true},
		{money(0, 0, 0, api.PGood), math.MinInt, true},
		{money(15, 0, 1<<40, api.PGood), 1<<40 - 1, true},
		{money(15, 0, 1<<40, api.PGood), 1 << 40, false},
		{money(15, 0, 1<<40, api.PGood), math.MaxInt, false},
		{money(15, 0, 20, api.PRenew), 19, false},
		{money(15, 0, 20, api.PClosed), 19, false},
		{money(15, 0, 20, 0), 19, false},
		{money(15, 16, 20, api.PGood), 19, false},
		{money(-1, 0, 20, api.PGood), 19, false},
		{money(15, 0, 1<<40+1, api.PGood), 19, false},
	} {
		if got := pay.Good(c.p, c.now); got != c.want {
			t.Errorf("Good(%v, %d) = %v", c.p, c.now, got)
		}
	}
	for _, p := range moneyThatMayNotBe() {
		for _, now := range append(edges(), beside(p.Until)...) {
			if pay.Good(p, now) {
				t.Errorf("Good(%v, %d), which may not be", p, now)
			}
		}
	}
}

// P11.2: Lapse: just what does not hold any more lapses, and of it just the State is another one.
func TestLapse(t *testing.T) {
	for _, c := range []struct {
		p    api.Pay
		now  int
		want api.Pay
		did  bool
	}{
		{money(15, 4, 20, api.PGood), 19, money(15, 4, 20, api.PGood), false},
		{money(15, 4, 20, api.PGood), 20, money(15, 4, 20, api.PRenew), true},
		{money(15, 4, 20, api.PGood), 21, money(15, 4, 20, api.PRenew), true},
		{money(15, 15, 20, api.PGood), math.MaxInt, money(15, 15, 20, api.PRenew), true},
		{money(15, 4, 20, api.PGood), math.MinInt, money(15, 4, 20, api.PGood), false},
		{money(0, 0, 0, api.PGood), 0, money(0, 0, 0, api.PRenew), true},
		{money(0, 0, 0, api.PGood), -1, money(0, 0, 0, api.PGood), false},
		{money(15, 4, 20, api.PRenew), 20, money(15, 4, 20, api.PRenew), false},
		{money(15, 4, 20, api.PRenew), 19, money(15, 4, 20, api.PRenew), false},
		{money(15, 4, 20, api.PClosed), 20, money(15, 4, 20, api.PClosed), false},
		{money(15, 4, 20, api.PClosed), 19, money(15, 4, 20, api.PClosed), false},
	} {
		if got, did, e := pay.Lapse(c.p, c.now); got != c.want || did != c.did || e != api.OK {
			t.Errorf("Lapse(%v, %d) = %v, %v, %d", c.p, c.now, got, did, e)
		}
	}
	for _, p := range moneyThatMayBe() {
		for _, now := range append(edges(), beside(p.Until)...) {
			if got, did, e := lapsed(t, p, now); e != api.OK || did != (p.State == api.PGood && !pay.Good(p, now)) || !did && got != p {
				t.Errorf("Lapse(%v, %d) = %v, %v, %d", p, now, got, did, e)
			}
		}
	}
}

// P11.2: Renew: just of what lapsed, until whatever time may be.
func TestRenew(t *testing.T) {
	for _, c := range []struct {
		p     api.Pay
		until int
		want  api.Pay
		e     api.Errno
	}{
		{money(15, 4, 20, api.PRenew), 30, money(15, 4, 30, api.PGood), api.OK},
		{money(15, 4, 20, api.PRenew), 20, money(15, 4, 20, api.PGood), api.OK},
		{money(15, 4, 20, api.PRenew), 1, money(15, 4, 1, api.PGood), api.OK},
		{money(15, 15, 20, api.PRenew), 0, money(15, 15, 0, api.PGood), api.OK},
		{money(15, 4, 20, api.PRenew), 1 << 40, money(15, 4, 1<<40, api.PGood), api.OK},
		{money(15, 4, 20, api.PRenew), -1, api.Pay{}, api.ErrArg},
		{money(15, 4, 20, api.PRenew), 1<<40 + 1, api.Pay{}, api.ErrArg},
		{money(15, 4, 20, api.PGood), 30, api.Pay{}, api.ErrState},
		{money(15, 4, 20, api.PClosed), 30, api.Pay{}, api.ErrState},
		{money(15, 4, 20, api.PGood), -1, api.Pay{}, api.ErrArg},
		{money(15, 4, 20, api.PClosed), 1<<40 + 1, api.Pay{}, api.ErrArg},
	} {
		if got, e := pay.Renew(c.p, c.until); got != c.want || e != c.e {
			t.Errorf("Renew(%v, %d) = %v, %d; want %v, %d", c.p, c.until, got, e, c.want, c.e)
		}
	}
}

// P11.2: Catch: up to all that was promised, and no more; of what is closed not even nothing.
func TestCatch(t *testing.T) {
	for _, c := range []struct {
		p    api.Pay
		n    int
		want api.Pay
		e    api.Errno
	}{
		{money(15, 4, 20, api.PGood), 0, money(15, 4, 20, api.PGood), api.OK},
		{money(15, 4, 20, api.PGood), 1, money(15, 5, 20, api.PGood), api.OK},
		{money(15, 4, 20, api.PGood), 11, money(15, 15, 20, api.PGood), api.OK},
		{money(15, 4, 20, api.PRenew), 11, money(15, 15, 20, api.PRenew), api.OK},
		{money(15, 15, 20, api.PRenew), 0, money(15, 15, 20, api.PRenew), api.OK},
		{money(0, 0, 0, api.PGood), 0, money(0, 0, 0, api.PGood), api.OK},
		{money(1<<50, 0, 20, api.PGood), 1 << 50, money(1<<50, 1<<50, 20, api.PGood), api.OK},
		{money(1<<50, 1<<50-1, 20, api.PGood), 1, money(1<<50, 1<<50, 20, api.PGood), api.OK},
		{money(15, 4, 20, api.PGood), 12, api.Pay{}, api.ErrOver},
		{money(15, 4, 20, api.PRenew), 12, api.Pay{}, api.ErrOver},
		{money(15, 15, 20, api.PGood), 1, api.Pay{}, api.ErrOver},
		{money(0, 0, 0, api.PGood), 1, api.Pay{}, api.ErrOver},
		{money(1<<50, 0, 20, api.PGood), 1<<50 + 1, api.Pay{}, api.ErrOver},
		{money(15, 4, 20, api.PGood), math.MaxInt, api.Pay{}, api.ErrOver},
		{money(1<<50, 1<<50, 20, api.PGood), math.MaxInt, api.Pay{}, api.ErrOver},
		{money(15, 4, 20, api.PClosed), 0, api.Pay{}, api.ErrState},
		{money(15, 4, 20, api.PClosed), 1, api.Pay{}, api.ErrState},
		{money(15, 4, 20, api.PClosed), 12, api.Pay{}, api.ErrState},
		{money(15, 4, 20, api.PGood), -1, api.Pay{}, api.ErrArg},
		{money(15, 4, 20, api.PRenew), math.MinInt, api.Pay{}, api.ErrArg},
		{money(15, 4, 20, api.PClosed), -1, api.Pay{}, api.ErrArg},
	} {
		if got, e := pay.Catch(c.p, c.n); got != c.want || e != c.e {
			t.Errorf("Catch(%v, %d) = %v, %d; want %v, %d", c.p, c.n, got, e, c.want, c.e)
		}
	}
}

// P11.2: Catch at each number up to more than was promised, be much of it caught or little.
func TestCatchOfEachNumber(t *testing.T) {
	for amount := range 20 {
		for had := range amount + 1 {
			for n := -2; n < 25; n++ {
				got, e := caught(t, money(amount, had, 7, api.PGood), n)
				if (e == api.OK) != (0 <= n && had+n <= amount) || e == api.OK && got.Caught != had+n {
					t.Errorf("Catch of %d, at %d of %d: %v, %d", n, had, amount, got, e)
				}
			}
		}
	}
}

// P11.2: Close: all that is not closed, once.
func TestClose(t *testing.T) {
	for _, p := range moneyThatMayBe() {
		want := p
		want.State = api.PClosed
		got, e := closed(t, p)
		if p.State == api.PClosed {
			if got != (api.Pay{}) || e != api.ErrState {
				t.Errorf("Close of %v = %v, %d", p, got, e)
			}
			continue
		}
		if got != want || e != api.OK {
			t.Errorf("Close of %v = %v, %d", p, got, e)
		}
		if again, e := closed(t, got); again != (api.Pay{}) || e != api.ErrState {
			t.Errorf("Close of %v = %v, %d", got, again, e)
		}
	}
}

// P11.1, P11.2 and R2: money that may not be is refused by all, whatever else is amiss, and nothing is told beside that.
func TestMoneyThatMayNotBe(t *testing.T) {
	for _, p := range moneyThatMayNotBe() {
		for _, n := range append(edges(), beside(p.Until, p.Amount-p.Caught)...) {
			if got, did, e := pay.Lapse(p, n); got != (api.Pay{}) || did || e != api.ErrArg {
				t.Errorf("Lapse(%v, %d) = %v, %v, %d", p, n, got, did, e)
			}
			if got, e := pay.Renew(p, n); got != (api.Pay{}) || e != api.ErrArg {
				t.Errorf("Renew(%v, %d) = %v, %d", p, n, got, e)
			}
			if got, e := pay.Catch(p, n); got != (api.Pay{}) || e != api.ErrArg {
				t.Errorf("Catch(%v, %d) = %v, %d", p, n, got, e)
			}
		}
		if got, e := pay.Close(p); got != (api.Pay{}) || e != api.ErrArg {
			t.Errorf("Close(%v) = %v, %d", p, got, e)
		}
	}
}

// P1: all calls at all edges, of money that may be and that may not.
func TestAllCallsAtEdges(t *testing.T) {
	for _, p := range append(moneyThatMayBe(), moneyThatMayNotBe()...) {
		for _, n := range append(edges(), beside(p.Until, p.Caught, p.Amount, p.Amount-p.Caught)...) {
			each(t, p, n)
		}
	}
	for _, amount := range edges() {
		for _, had := range append(edges(), beside(amount)...) {
			for _, until := range edges() {
				for _, state := range states() {
					p := money(amount, had, until, state)
					for _, n := range []int{-1, 0, until, amount - had} {
						each(t, p, n)
					}
				}
			}
		}
	}
}

// step is a call that is done to money, with a number beside it.
type step struct {
	call string
	n    int
}

// done is what a step makes of money: itself, if it is refused.
func done(t *testing.T, p api.Pay, s step) (api.Pay, api.Errno) {
	t.Helper()
	got, e := p, api.OK
	switch s.call {
	case "Lapse":
		got, _, e = lapsed(t, p, s.n)
	case "Renew":
		got, e = renewed(t, p, s.n)
	case "Catch":
		got, e = caught(t, p, s.n)
	case "Close":
		got, e = closed(t, p)
	}
	if e != api.OK {
		return p, e
	}
	return got, e
}

// staysSuch holds what a step may make of money that may be.
func staysSuch(t *testing.T, before, after api.Pay, s step) {
	t.Helper()
	switch {
	case !pay.Right(after):
		t.Fatalf("%v, of %v: %v, which may not be", s, before, after)
	case after.Caught > after.Amount || after.Caught < before.Caught || after.Amount != before.Amount:
		t.Fatalf("%v, of %v: %v is caught of what was promised", s, before, after)
	case before.State == api.PClosed && after != before:
		t.Fatalf("%v, of %v, which is closed: %v", s, before, after)
	}
}

// P11.3: what may be stays such, whatever is done to it: all turns of some steps.
func TestAllTurns(t *testing.T) {
	steps := []step{{"Lapse", 9}, {"Lapse", 10}, {"Renew", 9}, {"Renew", 30}, {"Renew", -1}, {"Catch", 1}, {"Catch", 2}, {"Catch", -1}, {"Close", 0}}
	p, e := made(t, 1, 3, 10)
	if e != api.OK {
		t.Fatal(e)
	}
	seen := map[api.Pay]bool{p: true}
	told := map[api.Errno]int{}
	for next := []api.Pay{p}; len(next) > 0; next = next[1:] {
		for _, s := range steps {
			after, e := done(t, next[0], s)
			staysSuch(t, next[0], after, s)
			told[e]++
			if !seen[after] {
				seen[after] = true
				next = append(next, after)
			}
		}
	}
	// Each number caught, in each state, with each of the times until which it is promised at last.
	for had := 0; had <= 3; had++ {
		for state := 1; state <= 3; state++ {
			for _, until := range []int{9, 10, 30} {
				if (until != 30 || state != api.PRenew) && !seen[money(3, had, until, state)] {
					t.Errorf("%d caught, in state %d until %d: it is not come to", had, state, until)
				}
			}
		}
	}
	for _, e := range []api.Errno{api.OK, api.ErrArg, api.ErrState, api.ErrOver} {
		if told[e] == 0 {
			t.Errorf("%d is not told", e)
		}
	}
}

// P11.3: long turns, of much money and little.
func TestLongTurns(t *testing.T) {
	seed := uint64(7)
	random := func(n int) int {
		seed = seed*6364136223846793005 + 1442695040888963407
		return int(seed>>12) % n
	}
	told := map[api.Errno]int{}
	for range 300 {
		p, e := made(t, 1+random(mostUnits>>10), 1+random(mostUnits>>10), random(50))
		if e != api.OK {
			t.Fatal(e)
		}
		for range 40 {
			s := step{[]string{"Lapse", "Renew", "Catch", "Catch"}[random(4)], random(60)}
			if s.call == "Catch" {
				s.n = random(p.Amount/4+2) - 1
			}
			if random(60) == 0 {
				s.call = "Close"
			}
			after, e := done(t, p, s)
			staysSuch(t, p, after, s)
			told[e]++
			p = after
		}
	}
	for _, e := range []api.Errno{api.OK, api.ErrState, api.ErrOver} {
		if told[e] < 20 {
			t.Errorf("told: %v", told)
		}
	}
}

// R1: calls that run side by side, or one behind the other, know nothing of each other.
func TestNothingIsKept(t *testing.T) {
	var all sync.WaitGroup
	for i := range 16 {
		all.Go(func() {
			p := money(100+i, i, 20+i, 1+i%3)
			for range 200 {
				if got, e := pay.New(1+i, 7, i); got != money(7+7*i, 0, i, api.PGood) || e != api.OK {
					t.Error("New answers something else")
				}
				a, did, e := pay.Lapse(p, 28)
				if want, wantDid, wantE := lapseAnswer(p, 28); a != want || did != wantDid || e != wantE {
					t.Error("Lapse answers something else")
				}
				b, e := pay.Renew(p, i)
				if want, wantE := renewAnswer(p, i); b != want || e != wantE {
					t.Error("Renew answers something else")
				}
				c, e := pay.Catch(p, 95)
				if want, wantE := catchAnswer(p, 95); c != want || e != wantE {
					t.Error("Catch answers something else")
				}
				d, e := pay.Close(p)
				if want, wantE := closeAnswer(p); d != want || e != wantE {
					t.Error("Close answers something else")
				}
				if !pay.Right(p) || pay.Good(p, 28) != goodAnswer(p, 28) {
					t.Error("Right or Good answers something else")
				}
			}
		})
	}
	all.Wait()
}
