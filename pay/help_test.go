package pay_test

import (
	"math"
	"math/big"
	"slices"
	"testing"

	"tarry/api"
	"tarry/pay"
)

const (
	mostUnits = 1 << 30
	mostMoney = 1 << 50
	mostTick  = 1 << 40
)

func money(amount, caught, until, state int) api.Pay {
	return api.Pay{Amount: amount, Caught: caught, Until: until, State: state}
}

// isMoney tells by numbers that have no sign whether money may be.
func isMoney(p api.Pay) bool {
	return uint(p.Amount) <= mostMoney && uint(p.Caught) <= uint(p.Amount) && uint(p.Until) <= mostTick && uint(p.State-1) < 3
}

func product(a, b int) *big.Int { return new(big.Int).Mul(big.NewInt(int64(a)), big.NewInt(int64(b))) }

func sum(a, b int) *big.Int { return new(big.Int).Add(big.NewInt(int64(a)), big.NewInt(int64(b))) }

func above(a *big.Int, b int) bool { return a.Cmp(big.NewInt(int64(b))) > 0 }

// The answers that calls must give: each by the words of its promise, with numbers that have no bounds.

func newAnswer(units, price, until int) (api.Pay, api.Errno) {
	if uint(units-1) >= mostUnits || uint(price-1) >= mostUnits || uint(until) > mostTick {
		return api.Pay{}, api.ErrArg
	}
	amount := product(units, price)
	if above(amount, mostMoney) {
		return api.Pay{}, api.ErrOver
	}
	return money(int(amount.Int64()), 0, until, 1), api.OK
}

func goodAnswer(p api.Pay, now int) bool {
	return isMoney(p) && p.State == 1 && now < p.Until
}

func lapseAnswer(p api.Pay, now int) (api.Pay, bool, api.Errno) {
	switch {
	case !isMoney(p):
		return api.Pay{}, false, api.ErrArg
	case p.State == 1 && now >= p.Until:
		return money(p.Amount, p.Caught, p.Until, 2), true, api.OK
	}
	return p, false, api.OK
}

func renewAnswer(p api.Pay, until int) (api.Pay, api.Errno) {
	switch {
	case !isMoney(p) || uint(until) > mostTick:
		return api.Pay{}, api.ErrArg
	case p.State == 1 || p.State == 3:
		return api.Pay{}, api.ErrState
	}
	return money(p.Amount, p.Caught, until, 1), api.OK
}

func catchAnswer(p api.Pay, n int) (api.Pay, api.Errno) {
	switch {
	case !isMoney(p) || n < 0:
		return api.Pay{}, api.ErrArg
	case p.State == 3:
		return api.Pay{}, api.ErrState
	case above(sum(p.Caught, n), p.Amount):
		return api.Pay{}, api.ErrOver
	}
	return money(p.Amount, p.Caught+n, p.Until, p.State), api.OK
}

func closeAnswer(p api.Pay) (api.Pay, api.Errno) {
	switch {
	case !isMoney(p):
		return api.Pay{}, api.ErrArg
	case p.State == 3:
		return api.Pay{}, api.ErrState
	}
	return money(p.Amount, p.Caught, p.Until, 3), api.OK
}

// answered holds an answer of money against what it must be.
func answered(t *testing.T, call string, p api.Pay, n int, got api.Pay, e api.Errno, want api.Pay, wantE api.Errno) {
	t.Helper()
	if got != want || e != wantE {
		t.Fatalf("%s(%v, %d) = %v, %d; want %v, %d", call, p, n, got, e, want, wantE)
	}
	if e == api.OK && !pay.Right(got) {
		t.Fatalf("%s(%v, %d) = %v, which may not be", call, p, n, got)
	}
}

// made is New's answer, held so.
func made(t *testing.T, units, price, until int) (api.Pay, api.Errno) {
	t.Helper()
	got, e := pay.New(units, price, until)
	want, wantE := newAnswer(units, price, until)
	if got != want || e != wantE {
		t.Fatalf("New(%d, %d, %d) = %v, %d; want %v, %d", units, price, until, got, e, want, wantE)
	}
	if e == api.OK && !pay.Right(got) {
		t.Fatalf("New(%d, %d, %d) = %v, which may not be", units, price, until, got)
	}
	return got, e
}

// lapsed is Lapse's answer, held so.
func lapsed(t *testing.T, p api.Pay, now int) (api.Pay, bool, api.Errno) {
	t.Helper()
	got, did, e := pay.Lapse(p, now)
	want, wantDid, wantE := lapseAnswer(p, now)
	answered(t, "Lapse", p, now, got, e, want, wantE)
	if did != wantDid {
		t.Fatalf("Lapse(%v, %d) tells %v", p, now, did)
	}
	return got, did, e
}

// renewed is Renew's answer, held so.
func renewed(t *testing.T, p api.Pay, until int) (api.Pay, api.Errno) {
	t.Helper()
	got, e := pay.Renew(p, until)
	want, wantE := renewAnswer(p, until)
	answered(t, "Renew", p, until, got, e, want, wantE)
	return got, e
}

// caught is Catch's answer, held so.
func caught(t *testing.T, p api.Pay, n int) (api.Pay, api.Errno) {
	t.Helper()
	got, e := pay.Catch(p, n)
	want, wantE := catchAnswer(p, n)
	answered(t, "Catch", p, n, got, e, want, wantE)
	return got, e
}

// closed is Close's answer, held so.
func closed(t *testing.T, p api.Pay) (api.Pay, api.Errno) {
	t.Helper()
	got, e := pay.Close(p)
	want, wantE := closeAnswer(p)
	answered(t, "Close", p, 0, got, e, want, wantE)
	return got, e
}

// each are all calls' answers of money, and of a number beside it, held so.
func each(t *testing.T, p api.Pay, n int) {
	t.Helper()
	if pay.Right(p) != isMoney(p) {
		t.Fatalf("Right(%v) = %v", p, pay.Right(p))
	}
	if pay.Good(p, n) != goodAnswer(p, n) {
		t.Fatalf("Good(%v, %d) = %v", p, n, pay.Good(p, n))
	}
	lapsed(t, p, n)
	renewed(t, p, n)
	caught(t, p, n)
	closed(t, p)
}

// edges are numbers at and beside all bounds, and far from them.
func edges() []int {
	return []int{
		math.MinInt, math.MinInt + 1, -mostMoney, -mostTick, -1, 0, 1, 2, 15,
		mostUnits - 1, mostUnits, mostUnits + 1, 1<<32 + 1, mostTick - 1, mostTick, mostTick + 1,
		mostMoney - 1, mostMoney, mostMoney + 1, 1 << 60, math.MaxInt - 1, math.MaxInt,
	}
}

// states are all that may be, and some that may not.
func states() []int {
	return []int{1, 2, 3, 0, 4, -1, 256 + 1, 1<<32 + 2, math.MaxInt, math.MinInt}
}

// beside are numbers at and about those.
func beside(l ...int) []int {
	var all []int
	for _, n := range l {
		all = append(all, n-1, n, n+1) // may wrap round, which is a number as any other
	}
	slices.Sort(all)
	return slices.Compact(all)
}

// moneyThatMayBe is money of all states, with and without anything caught, or left, at the edges.
func moneyThatMayBe() []api.Pay {
	var l []api.Pay
	for _, amount := range []int{0, 1, 15, mostMoney - 1, mostMoney} {
		some := []int{0, 1, amount / 3, amount - 1, amount}
		slices.Sort(some)
		for _, caught := range slices.Compact(some) {
			if caught < 0 || caught > amount {
				continue
			}
			for _, until := range []int{0, 1, 20, mostTick - 1, mostTick} {
				for state := 1; state <= 3; state++ {
					l = append(l, money(amount, caught, until, state))
				}
			}
		}
	}
	return l
}

// moneyThatMayNotBe has one field behind an edge, or all.
func moneyThatMayNotBe() []api.Pay {
	l := []api.Pay{{}, money(-1, -1, -1, -1), money(mostMoney+1, mostMoney+1, mostTick+1, 4), money(math.MinInt, math.MaxInt, math.MinInt, math.MaxInt)}
	for _, state := range []int{1, 2, 3} {
		for _, amount := range []int{math.MinInt, -mostMoney, -1, mostMoney + 1, 1 << 51, 1<<62 + 15, math.MaxInt} {
			l = append(l, money(amount, 0, 20, state), money(amount, amount, 20, state))
		}
		for _, caught := range []int{math.MinInt, -15, -1, 16, 17, mostMoney, mostMoney + 1, 1<<62 + 5, math.MaxInt} {
			l = append(l, money(15, caught, 20, state))
		}
		l = append(l, money(0, 1, 20, state), money(0, -1, 20, state), money(mostMoney, mostMoney+1, 20, state))
		for _, until := range []int{math.MinInt, -mostTick, -1, mostTick + 1, 1 << 41, 1<<62 + 20, math.MaxInt} {
			l = append(l, money(15, 10, until, state))
		}
	}
	for _, state := range states()[3:] {
		l = append(l, money(15, 10, 20, state), money(0, 0, 0, state))
	}
	return l
}
