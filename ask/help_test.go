package ask_test

import (
	"math"
	"testing"

	"tarry/api"
	"tarry/ask"
)

const most = 1 << 40 // of an Until

func asking(state, until int) api.Ask { return api.Ask{State: state, Until: until} }

// isAsking tells by numbers that have no sign whether asking may be.
func isAsking(a api.Ask) bool {
	return a == api.Ask{} || uint(a.State-1) < 3 && uint(a.Until) <= most
}

// The answers that calls must give: each by the words of its promise.

func beginAnswer(a api.Ask, until int) (api.Ask, api.Errno) {
	switch {
	case !isAsking(a) || uint(until) > most:
		return api.Ask{}, api.ErrArg
	case a != api.Ask{}:
		return api.Ask{}, api.ErrState
	}
	return asking(1, until), api.OK
}

func answerAnswer(a api.Ask, yes bool, now int) (api.Ask, api.Errno) {
	switch {
	case !isAsking(a):
		return api.Ask{}, api.ErrArg
	case a.State == 0 || a.State == 2 || a.State == 3:
		return api.Ask{}, api.ErrState
	case now >= a.Until:
		return api.Ask{}, api.ErrPast
	case yes:
		return asking(2, a.Until), api.OK
	}
	return asking(3, a.Until), api.OK
}

func lapseAnswer(a api.Ask, now int) (api.Ask, bool, api.Errno) {
	switch {
	case !isAsking(a):
		return api.Ask{}, false, api.ErrArg
	case (a.State == 1 || a.State == 2) && now >= a.Until:
		return asking(3, a.Until), true, api.OK
	}
	return a, false, api.OK
}

func mayAnswer(a api.Ask, now int) bool {
	return isAsking(a) && a.State == 2 && now < a.Until
}

// answered holds an answer of asking against what it must be.
func answered(t *testing.T, call string, a api.Ask, n int, got api.Ask, e api.Errno, want api.Ask, wantE api.Errno) {
	t.Helper()
	if got != want || e != wantE {
		t.Fatalf("%s(%v, %d) = %v, %d; want %v, %d", call, a, n, got, e, want, wantE)
	}
	if e == api.OK && !ask.Right(got) {
		t.Fatalf("%s(%v, %d) = %v, which may not be", call, a, n, got)
	}
}

// begun is Begin's answer, held so.
func begun(t *testing.T, a api.Ask, until int) (api.Ask, api.Errno) {
	t.Helper()
	got, e := ask.Begin(a, until)
	want, wantE := beginAnswer(a, until)
	answered(t, "Begin", a, until, got, e, want, wantE)
	return got, e
}

// said is Answer's answer, held so.
func said(t *testing.T, a api.Ask, yes bool, now int) (api.Ask, api.Errno) {
	t.Helper()
	got, e := ask.Answer(a, yes, now)
	want, wantE := answerAnswer(a, yes, now)
	call := "Answer no"
	if yes {
		call = "Answer yes"
	}
	answered(t, call, a, now, got, e, want, wantE)
	return got, e
}

// lapsed is Lapse's answer, held so.
func lapsed(t *testing.T, a api.Ask, now int) (api.Ask, bool, api.Errno) {
	t.Helper()
	got, did, e := ask.Lapse(a, now)
	want, wantDid, wantE := lapseAnswer(a, now)
	answered(t, "Lapse", a, now, got, e, want, wantE)
	if did != wantDid {
		t.Fatalf("Lapse(%v, %d) tells %v", a, now, did)
	}
	return got, did, e
}

// each are all calls' answers of asking, and of a number beside it, held so.
func each(t *testing.T, a api.Ask, n int) {
	t.Helper()
	if ask.Right(a) != isAsking(a) {
		t.Fatalf("Right(%v) = %v", a, ask.Right(a))
	}
	if ask.May(a, n) != mayAnswer(a, n) {
		t.Fatalf("May(%v, %d) = %v", a, n, ask.May(a, n))
	}
	begun(t, a, n)
	said(t, a, true, n)
	said(t, a, false, n)
	lapsed(t, a, n)
}

// edges are numbers at and beside all bounds, and far from them.
func edges() []int {
	return []int{
		math.MinInt, math.MinInt + 1, -most - 1, -most, -1, 0, 1, 2, 5,
		1<<31 - 1, 1 << 31, 1<<32 + 1, most - 1, most, most + 1,
		1 << 41, 1<<62 + 1, math.MaxInt - 1, math.MaxInt,
	}
}

// states are all that may be, and some that may not.
func states() []int {
	return []int{0, 1, 2, 3, 4, -1, -2, 256, 256 + 2, 1 << 32, 1<<32 + 2, math.MaxInt, math.MinInt, math.MinInt + 2}
}

// beside are numbers at and about that one. They may wrap round, which is a number as any other.
func beside(n int) []int { return []int{n - 1, n, n + 1} }

// askingThatMayBe is such, of all states, at the edges.
func askingThatMayBe() []api.Ask {
	l := []api.Ask{{}}
	for state := 1; state <= 3; state++ {
		for _, until := range []int{0, 1, 5, most - 1, most} {
			l = append(l, asking(state, until))
		}
	}
	return l
}

// askingThatMayNotBe has one field behind an edge, or both.
func askingThatMayNotBe() []api.Ask {
	l := []api.Ask{asking(-1, -1), asking(4, most+1), asking(math.MinInt, math.MaxInt), asking(math.MaxInt, math.MinInt)}
	for _, until := range []int{1, 2, 5, most, 1 << 32, 1 << 62} {
		l = append(l, asking(0, until)) // it has no Until, as it is not begun
	}
	for _, until := range []int{math.MinInt, -most, -5, -1, most + 1, 1 << 41, 1<<62 + 5, math.MaxInt} {
		for state := 0; state <= 3; state++ {
			l = append(l, asking(state, until))
		}
	}
	for _, state := range states()[4:] {
		l = append(l, asking(state, 0), asking(state, 5), asking(state, most))
	}
	return l
}
