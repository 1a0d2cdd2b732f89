package ask_test

import (
	"math"
	"sync"
	"testing"

	"tarry/api"
	"tarry/ask"
)

// The chapter's example.
func TestExample(t *testing.T) {
	a, e := ask.Begin(api.Ask{}, 5)
	if e != api.OK {
		t.Fatal(e)
	}
	if a, e = ask.Answer(a, true, 3); e != api.OK {
		t.Fatal(e)
	}
	if !ask.May(a, 4) || ask.May(a, 5) {
		t.Errorf("May at 4, at 5: %v, %v", ask.May(a, 4), ask.May(a, 5))
	}
}

// The errors that ask tells, by their numbers.
func TestErrorsNumbers(t *testing.T) {
	for _, c := range []struct {
		tell func() (api.Ask, api.Errno)
		want int
	}{
		{func() (api.Ask, api.Errno) { return ask.Begin(api.Ask{}, 5) }, 0},
		{func() (api.Ask, api.Errno) { return ask.Begin(api.Ask{}, -1) }, 1},
		{func() (api.Ask, api.Errno) { return ask.Begin(asking(1, 5), 5) }, 10},
		{func() (api.Ask, api.Errno) { return ask.Answer(asking(2, 5), true, 3) }, 10},
		{func() (api.Ask, api.Errno) { return ask.Answer(asking(1, 5), true, 5) }, 12},
	} {
		if _, e := c.tell(); int(e) != c.want {
			t.Errorf("%d is told; want %d", e, c.want)
		}
	}
}

// call is one that is done to asking, with its name, and what it must answer.
type call struct {
	name string
	do   func(a api.Ask) (api.Ask, api.Errno)
	want api.Ask
	e    api.Errno
}

func begin(until int) func(api.Ask) (api.Ask, api.Errno) {
	return func(a api.Ask) (api.Ask, api.Errno) { return ask.Begin(a, until) }
}

func say(yes bool, now int) func(api.Ask) (api.Ask, api.Errno) {
	return func(a api.Ask) (api.Ask, api.Errno) { return ask.Answer(a, yes, now) }
}

func lapse(now int) func(api.Ask) (api.Ask, api.Errno) {
	return func(a api.Ask) (api.Ask, api.Errno) { a, _, e := ask.Lapse(a, now); return a, e }
}

// inTurn does calls in turn, each to what the last one made that was not refused.
func inTurn(t *testing.T, calls []call) {
	t.Helper()
	var a api.Ask
	for _, c := range calls {
		got, e := c.do(a)
		if got != c.want || e != c.e {
			t.Fatalf("%s: %v, %d; want %v, %d", c.name, got, e, c.want, c.e)
		}
		if e == api.OK {
			a = got
		}
	}
}

// P12.1: all calls in turn, written out: a yes in time.
func TestCallsOfYes(t *testing.T) {
	inTurn(t, []call{
		{"Answer, as it is not asked", say(true, 1), api.Ask{}, api.ErrState},
		{"Lapse, as it is not asked", lapse(99), api.Ask{}, api.OK},
		{"Begin until no time", begin(-1), api.Ask{}, api.ErrArg},
		{"Begin", begin(20), asking(api.AAsked, 20), api.OK},
		{"Begin again", begin(30), api.Ask{}, api.ErrState},
		{"Lapse ahead of its time", lapse(19), asking(api.AAsked, 20), api.OK},
		{"Answer too late", say(true, 20), api.Ask{}, api.ErrPast},
		{"Answer yes", say(true, 19), asking(api.AYes, 20), api.OK},
		{"Answer again", say(true, 19), api.Ask{}, api.ErrState},
		{"Answer no, as it is answered", say(false, 19), api.Ask{}, api.ErrState},
		{"Answer again, too late", say(true, 20), api.Ask{}, api.ErrState},
		{"Begin, as it is answered", begin(30), api.Ask{}, api.ErrState},
		{"Lapse of yes ahead of its time", lapse(19), asking(api.AYes, 20), api.OK},
		{"Lapse at its time", lapse(20), asking(api.ANo, 20), api.OK},
		{"Lapse again", lapse(21), asking(api.ANo, 20), api.OK},
		{"Answer, as it lapsed", say(true, 19), api.Ask{}, api.ErrState},
		{"Begin, as it lapsed", begin(30), api.Ask{}, api.ErrState},
	})
}

// P12.1: a no, and no answer at all.
func TestCallsOfNo(t *testing.T) {
	inTurn(t, []call{
		{"Begin", begin(20), asking(api.AAsked, 20), api.OK},
		{"Answer no", say(false, 3), asking(api.ANo, 20), api.OK},
		{"Answer yes, as it is answered", say(true, 3), api.Ask{}, api.ErrState},
		{"Begin, as it is answered", begin(30), api.Ask{}, api.ErrState},
		{"Lapse", lapse(99), asking(api.ANo, 20), api.OK},
	})
	inTurn(t, []call{
		{"Begin", begin(20), asking(api.AAsked, 20), api.OK},
		{"Lapse", lapse(20), asking(api.ANo, 20), api.OK},
		{"Answer, as it lapsed", say(true, 3), api.Ask{}, api.ErrState},
		{"Begin, as it lapsed", begin(30), api.Ask{}, api.ErrState},
	})
	inTurn(t, []call{
		{"Begin until the first time", begin(0), asking(api.AAsked, 0), api.OK},
		{"Answer at it", say(true, 0), api.Ask{}, api.ErrPast},
		{"Answer ahead of it", say(false, -1), asking(api.ANo, 0), api.OK},
	})
}

// P12.1: Right: asking that may be, and that may not.
func TestRight(t *testing.T) {
	for _, a := range askingThatMayBe() {
		if !isAsking(a) || !ask.Right(a) {
			t.Errorf("it may be: %v", a)
		}
	}
	for _, a := range askingThatMayNotBe() {
		if isAsking(a) || ask.Right(a) {
			t.Errorf("it may not be: %v", a)
		}
	}
}

// P12.1: May: behind a yes, until its time, and not at it; of other states, or if it may not be, at none.
func TestMay(t *testing.T) {
	for _, c := range []struct {
		a    api.Ask
		now  int
		want bool
	}{
		{asking(api.AYes, 5), 4, true},
		{asking(api.AYes, 5), 5, false},
		{asking(api.AYes, 5), 6, false},
		{asking(api.AYes, 5), 0, true},
		{asking(api.AYes, 5), math.MinInt, true},
		{asking(api.AYes, 5), math.MaxInt, false},
		{asking(api.AYes, 0), 0, false},
		{asking(api.AYes, 0), -1, true},
		{asking(api.AYes, 1<<40), 1<<40 - 1, true},
		{asking(api.AYes, 1<<40), 1 << 40, false},
		{asking(api.AAsked, 5), 4, false},
		{asking(api.ANo, 5), 4, false},
		{asking(0, 0), -1, false},
		{asking(0, 5), 4, false},
		{asking(4, 5), 4, false},
		{asking(-2, 5), 4, false},
		{asking(api.AYes, -1), -2, false},
		{asking(api.AYes, 1<<40+1), 4, false},
		{asking(api.AYes, math.MaxInt), 4, false},
	} {
		if got := ask.May(c.a, c.now); got != c.want {
			t.Errorf("May(%v, %d) = %v", c.a, c.now, got)
		}
	}
	for _, a := range askingThatMayNotBe() {
		for _, now := range append(edges(), beside(a.Until)...) {
			if ask.May(a, now) {
				t.Errorf("May(%v, %d), which may not be", a, now)
			}
		}
	}
}

// P12.1: Begin: just of what is not begun, until whatever time may be.
func TestBegin(t *testing.T) {
	for _, c := range []struct {
		a     api.Ask
		until int
		want  api.Ask
		e     api.Errno
	}{
		{api.Ask{}, 0, asking(api.AAsked, 0), api.OK},
		{api.Ask{}, 1, asking(api.AAsked, 1), api.OK},
		{api.Ask{}, 20, asking(api.AAsked, 20), api.OK},
		{api.Ask{}, 1 << 40, asking(api.AAsked, 1<<40), api.OK},
		{api.Ask{}, -1, api.Ask{}, api.ErrArg},
		{api.Ask{}, 1<<40 + 1, api.Ask{}, api.ErrArg},
		{api.Ask{}, math.MinInt, api.Ask{}, api.ErrArg},
		{api.Ask{}, math.MaxInt, api.Ask{}, api.ErrArg},
		{asking(api.AAsked, 20), 30, api.Ask{}, api.ErrState},
		{asking(api.AAsked, 20), 20, api.Ask{}, api.ErrState},
		{asking(api.AAsked, 0), 0, api.Ask{}, api.ErrState},
		{asking(api.AYes, 20), 30, api.Ask{}, api.ErrState},
		{asking(api.ANo, 20), 30, api.Ask{}, api.ErrState},
		{asking(api.AAsked, 20), -1, api.Ask{}, api.ErrArg},
		{asking(api.AYes, 20), 1<<40 + 1, api.Ask{}, api.ErrArg},
		{asking(api.ANo, 20), -1, api.Ask{}, api.ErrArg},
		{asking(0, 5), 20, api.Ask{}, api.ErrArg},
	} {
		if got, e := ask.Begin(c.a, c.until); got != c.want || e != c.e {
			t.Errorf("Begin(%v, %d) = %v, %d; want %v, %d", c.a, c.until, got, e, c.want, c.e)
		}
	}
}

// P12.1: Answer: yes and no, ahead of the time until which it was asked; which error comes first.
func TestAnswer(t *testing.T) {
	for _, c := range []struct {
		a    api.Ask
		yes  bool
		now  int
		want api.Ask
		e    api.Errno
	}{
		{asking(api.AAsked, 20), true, 19, asking(api.AYes, 20), api.OK},
		{asking(api.AAsked, 20), false, 19, asking(api.ANo, 20), api.OK},
		{asking(api.AAsked, 20), true, 0, asking(api.AYes, 20), api.OK},
		{asking(api.AAsked, 20), false, math.MinInt, asking(api.ANo, 20), api.OK},
		{asking(api.AAsked, 0), true, -1, asking(api.AYes, 0), api.OK},
		{asking(api.AAsked, 1<<40), true, 1<<40 - 1, asking(api.AYes, 1<<40), api.OK},
		{asking(api.AAsked, 20), true, 20, api.Ask{}, api.ErrPast},
		{asking(api.AAsked, 20), false, 20, api.Ask{}, api.ErrPast},
		{asking(api.AAsked, 20), true, 21, api.Ask{}, api.ErrPast},
		{asking(api.AAsked, 20), false, math.MaxInt, api.Ask{}, api.ErrPast},
		{asking(api.AAsked, 0), true, 0, api.Ask{}, api.ErrPast},
		{asking(api.AAsked, 1<<40), true, 1 << 40, api.Ask{}, api.ErrPast},
		{api.Ask{}, true, 0, api.Ask{}, api.ErrState},
		{api.Ask{}, false, -1, api.Ask{}, api.ErrState},
		{asking(api.AYes, 20), true, 19, api.Ask{}, api.ErrState},
		{asking(api.AYes, 20), false, 19, api.Ask{}, api.ErrState},
		{asking(api.ANo, 20), true, 19, api.Ask{}, api.ErrState},
		{asking(api.ANo, 20), false, 19, api.Ask{}, api.ErrState},
		{asking(api.AYes, 20), true, 20, api.Ask{}, api.ErrState},
		{asking(api.ANo, 20), true, 20, api.Ask{}, api.ErrState},
		{asking(0, 20), true, 20, api.Ask{}, api.ErrArg},
		{asking(4, 20), true, 19, api.Ask{}, api.ErrArg},
		{asking(api.AAsked, -1), true, -2, api.Ask{}, api.ErrArg},
		{asking(api.AAsked, -1), true, 0, api.Ask{}, api.ErrArg},
		{asking(api.AAsked, 1<<40+1), false, 5, api.Ask{}, api.ErrArg},
	} {
		if got, e := ask.Answer(c.a, c.yes, c.now); got != c.want || e != c.e {
			t.Errorf("Answer(%v, %v, %d) = %v, %d; want %v, %d", c.a, c.yes, c.now, got, e, c.want, c.e)
		}
	}
}

// P12.1: Lapse: just what is asked, or said yes to, and whose time has come.
func TestLapse(t *testing.T) {
	for _, c := range []struct {
		a    api.Ask
		now  int
		want api.Ask
		did  bool
	}{
		{asking(api.AAsked, 20), 19, asking(api.AAsked, 20), false},
		{asking(api.AAsked, 20), 20, asking(api.ANo, 20), true},
		{asking(api.AAsked, 20), 21, asking(api.ANo, 20), true},
		{asking(api.AYes, 20), 19, asking(api.AYes, 20), false},
		{asking(api.AYes, 20), 20, asking(api.ANo, 20), true},
		{asking(api.AYes, 20), math.MaxInt, asking(api.ANo, 20), true},
		{asking(api.AYes, 20), math.MinInt, asking(api.AYes, 20), false},
		{asking(api.AAsked, 0), 0, asking(api.ANo, 0), true},
		{asking(api.AAsked, 0), -1, asking(api.AAsked, 0), false},
		{asking(api.AYes, 1<<40), 1<<40 - 1, asking(api.AYes, 1<<40), false},
		{asking(api.AYes, 1<<40), 1 << 40, asking(api.ANo, 1<<40), true},
		{asking(api.ANo, 20), 19, asking(api.ANo, 20), false},
		{asking(api.ANo, 20), 20, asking(api.ANo, 20), false},
		{api.Ask{}, -1, api.Ask{}, false},
		{api.Ask{}, 0, api.Ask{}, false},
		{api.Ask{}, math.MaxInt, api.Ask{}, false},
	} {
		if got, did, e := ask.Lapse(c.a, c.now); got != c.want || did != c.did || e != api.OK {
			t.Errorf("Lapse(%v, %d) = %v, %v, %d", c.a, c.now, got, did, e)
		}
	}
	for _, a := range askingThatMayBe() {
		for _, now := range append(edges(), beside(a.Until)...) {
			got, did, e := lapsed(t, a, now)
			if e != api.OK || ask.May(got, now) != ask.May(a, now) || !did && got != a {
				t.Errorf("Lapse(%v, %d) = %v, %v, %d", a, now, got, did, e)
			}
			if again, did, e := lapsed(t, got, now); again != got || did || e != api.OK {
				t.Errorf("Lapse(%v, %d) again = %v, %v, %d", a, now, again, did, e)
			}
		}
	}
}

// P12.1 and R2: asking that may not be is refused by all, whatever else is amiss, and nothing is told beside that.
func TestAskingThatMayNotBe(t *testing.T) {
	for _, a := range askingThatMayNotBe() {
		for _, n := range append(edges(), beside(a.Until)...) {
			if got, e := ask.Begin(a, n); got != (api.Ask{}) || e != api.ErrArg {
				t.Errorf("Begin(%v, %d) = %v, %d", a, n, got, e)
			}
			for _, yes := range []bool{true, false} {
				if got, e := ask.Answer(a, yes, n); got != (api.Ask{}) || e != api.ErrArg {
					t.Errorf("Answer(%v, %v, %d) = %v, %d", a, yes, n, got, e)
				}
			}
			if got, did, e := ask.Lapse(a, n); got != (api.Ask{}) || did || e != api.ErrArg {
				t.Errorf("Lapse(%v, %d) = %v, %v, %d", a, n, got, did, e)
			}
		}
	}
}

// P1: all calls at all edges, of asking that may be and that may not.
func TestAllCallsAtEdges(t *testing.T) {
	for _, a := range append(askingThatMayBe(), askingThatMayNotBe()...) {
		for _, n := range append(edges(), beside(a.Until)...) {
			each(t, a, n)
		}
	}
	for _, state := range states() {
		for _, until := range edges() {
			for _, n := range append(edges(), beside(until)...) {
				each(t, asking(state, until), n)
			}
		}
	}
}

// P1: all calls at each small number, below 0 too.
func TestAllCallsAtSmallNumbers(t *testing.T) {
	for state := -3; state < 7; state++ {
		for until := -3; until < 12; until++ {
			for n := -3; n < 15; n++ {
				each(t, asking(state, until), n)
			}
		}
	}
}

// step is a call that is done to asking, with a number beside it.
type step struct {
	call string
	n    int
}

// done is what a step makes of asking: itself, if it is refused.
func done(t *testing.T, a api.Ask, s step) (api.Ask, api.Errno) {
	t.Helper()
	got, e := a, api.OK
	switch s.call {
	case "Begin":
		got, e = begun(t, a, s.n)
	case "yes", "no":
		got, e = said(t, a, s.call == "yes", s.n)
	case "Lapse":
		got, _, e = lapsed(t, a, s.n)
	}
	if e != api.OK {
		return a, e
	}
	return got, e
}

// turn is what came of some steps: whether it was asked, and until when; what was said first, in time; and whether the time went by.
type turn struct {
	asked bool
	until int
	said  string
	over  bool
}

// on is what comes of one more step, told without the calls' answers.
func (u turn) on(s step) turn {
	switch s.call {
	case "Begin":
		if !u.asked && 0 <= s.n && s.n <= most {
			u.asked, u.until = true, s.n
		}
	case "yes", "no":
		if u.asked && u.said == "" && !u.over && s.n < u.until {
			u.said = s.call
		}
	case "Lapse":
		u.over = u.over || u.asked && s.n >= u.until
	}
	return u
}

// may tells whether another thing may stand: yes was said first, in time, and the time is not over.
func (u turn) may(now int) bool {
	return u.said == "yes" && !u.over && now < u.until
}

// steps are calls about the times 5 and 6.
func steps() []step {
	return []step{
		{"Begin", 5}, {"Begin", 6}, {"Begin", -1},
		{"yes", 4}, {"yes", 5}, {"no", 4}, {"no", 5},
		{"Lapse", 4}, {"Lapse", 5}, {"Lapse", 6},
	}
}

// P12.2: all turns of some steps: another thing may stand just behind a yes in time, and until the time.
func TestAllTurns(t *testing.T) {
	may := map[bool]int{}
	var walk func(a api.Ask, u turn, left int)
	walk = func(a api.Ask, u turn, left int) {
		for now := 3; now <= 7; now++ {
			if ask.May(a, now) != u.may(now) {
				t.Fatalf("May(%v, %d) = %v, behind %+v", a, now, ask.May(a, now), u)
			}
			may[u.may(now)]++
		}
		if left == 0 {
			return
		}
		for _, s := range steps() {
			after, _ := done(t, a, s)
			walk(after, u.on(s), left-1)
		}
	}
	walk(api.Ask{}, turn{}, 5)
	if may[true] < 1000 || may[false] < 1000 {
		t.Errorf("told: %v", may)
	}
}

// P12.2: it is asked once, and answered once, in all turns of some steps: just one Begin is not refused, and just one answer.
func TestAskedOnceAndAnsweredOnce(t *testing.T) {
	told := map[api.Errno]int{}
	var walk func(a api.Ask, begun, answered, left int)
	walk = func(a api.Ask, begun, answered, left int) {
		if begun > 1 || answered > begun {
			t.Fatalf("asked %d times, answered %d times: %v", begun, answered, a)
		}
		if left == 0 {
			return
		}
		for _, s := range steps() {
			after, e := done(t, a, s)
			told[e]++
			switch {
			case e != api.OK || s.call == "Lapse":
				walk(after, begun, answered, left-1)
			case s.call == "Begin":
				walk(after, begun+1, answered, left-1)
			default:
				walk(after, begun, answered+1, left-1)
			}
		}
	}
	walk(api.Ask{}, 0, 0, 5)
	for _, e := range []api.Errno{api.OK, api.ErrArg, api.ErrState, api.ErrPast} {
		if told[e] < 100 {
			t.Errorf("told: %v", told)
		}
	}
}

// P12.2: all that some steps come to: each state with each of its times, which stays the same once it is asked; and no stays no.
func TestAllThatIsComeTo(t *testing.T) {
	seen := map[api.Ask]bool{{}: true}
	for next := []api.Ask{{}}; len(next) > 0; next = next[1:] {
		for _, s := range steps() {
			after, _ := done(t, next[0], s)
			if next[0].State == api.ANo && after != next[0] {
				t.Errorf("%v, of no: %v", s, after)
			}
			if next[0].State != 0 && after.Until != next[0].Until {
				t.Errorf("%v, of %v: another time: %v", s, next[0], after)
			}
			if !seen[after] {
				seen[after] = true
				next = append(next, after)
			}
		}
	}
	if len(seen) != 7 {
		t.Errorf("%d are come to: %v", len(seen), seen)
	}
	for state := 1; state <= 3; state++ {
		if !seen[asking(state, 5)] || !seen[asking(state, 6)] {
			t.Errorf("state %d is not come to, until 5 and 6", state)
		}
	}
}

// P12.2: what was may until the time, at each time, and no longer; and what was not said yes to may at none.
func TestMayUntilTheTime(t *testing.T) {
	for until := 1; until < 30; until++ {
		a, _ := begun(t, api.Ask{}, until)
		for now := range until {
			yes, e := said(t, a, true, now)
			no, e2 := said(t, a, false, now)
			if e != api.OK || e2 != api.OK {
				t.Fatal(until, now, e, e2)
			}
			for at := -2; at < until+5; at++ {
				if ask.May(yes, at) != (at < until) || ask.May(no, at) || ask.May(a, at) {
					t.Errorf("until %d, answered at %d: May at %d: %v of yes, %v of no, %v of neither", until, now, at, ask.May(yes, at), ask.May(no, at), ask.May(a, at))
				}
			}
		}
	}
}

// R1: calls that run side by side, or one behind the other, know nothing of each other.
func TestNothingIsKept(t *testing.T) {
	var all sync.WaitGroup
	for i := range 16 {
		all.Go(func() {
			a := asking(1+i%3, 20+i)
			for range 200 {
				if got, e := ask.Begin(api.Ask{}, i); got != asking(api.AAsked, i) || e != api.OK {
					t.Error("Begin answers something else")
				}
				b, e := ask.Answer(a, i%2 == 0, 28)
				if want, wantE := answerAnswer(a, i%2 == 0, 28); b != want || e != wantE {
					t.Error("Answer answers something else")
				}
				c, did, e := ask.Lapse(a, 28)
				if want, wantDid, wantE := lapseAnswer(a, 28); c != want || did != wantDid || e != wantE {
					t.Error("Lapse answers something else")
				}
				if !ask.Right(a) || ask.May(a, 28) != mayAnswer(a, 28) {
					t.Error("Right or May answers something else")
				}
			}
		})
	}
	all.Wait()
}
