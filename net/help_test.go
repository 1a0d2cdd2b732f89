package net_test

import (
	"math"
	"slices"
	"strconv"
	"testing"

	"tarry/api"
	"tarry/net"
)

const most = 1 << 40 // of a parcel's number, of a key, and of an order

// told is a parcel that tells something.
func told(no, key, kind, order int) api.Parcel {
	return api.Parcel{No: no, Key: key, Kind: kind, Order: order}
}

// answer is a parcel that comes back.
func answer(no, key, kind, order int, yes bool) api.Parcel {
	return api.Parcel{No: no, Back: true, Key: key, Kind: kind, Order: order, Yes: yes}
}

// flying is a net whose last number is the greatest of its parcels'.
func flying(l ...api.Parcel) api.Net {
	n := api.Net{Flight: l}
	for _, p := range l {
		n.Last = max(n.Last, p.No)
	}
	return n
}

func same(a, b api.Net) bool {
	return a.Last == b.Last && slices.Equal(a.Flight, b.Flight)
}

// isNumber tells by a number that has no sign whether that is a key, or an order's number.
func isNumber(n int) bool { return uint(n-1) < most }

// isParcel tells, by all that a parcel of a kind may be, whether one may be, whatever its number.
func isParcel(p api.Parcel) bool {
	if !isNumber(p.Key) || !isNumber(p.Order) {
		return false
	}
	switch p {
	case told(p.No, p.Key, 1, p.Order), told(p.No, p.Key, 2, p.Order), told(p.No, p.Key, 3, p.Order):
		return true
	case answer(p.No, p.Key, 1, p.Order, false), answer(p.No, p.Key, 2, p.Order, false), answer(p.No, p.Key, 3, p.Order, false):
		return true
	}
	return p == answer(p.No, p.Key, 3, p.Order, true)
}

// isNet tells so whether a net may be.
func isNet(n api.Net) bool {
	if uint(n.Last) > most || len(n.Flight) >= 65 {
		return false
	}
	return !slices.ContainsFunc(n.Flight, func(p api.Parcel) bool { return !isParcel(p) || uint(p.No-1) >= uint(n.Last) })
}

// The answers that calls must give: each by the words of its promise.

func postAnswer(n api.Net, p api.Parcel) (api.Net, int, api.Errno) {
	if !isNet(n) || !isParcel(p) {
		return api.Net{}, 0, api.ErrArg
	}
	if len(n.Flight) >= 64 || n.Last >= most {
		return api.Net{}, 0, api.ErrFull
	}
	posted := api.Parcel{No: n.Last + 1, Back: p.Back, Key: p.Key, Kind: p.Kind, Order: p.Order, Yes: p.Yes}
	return api.Net{Flight: slices.Concat(n.Flight, []api.Parcel{posted}), Last: n.Last + 1}, n.Last + 1, api.OK
}

func takeAnswer(n api.Net, place int) (api.Net, api.Parcel, api.Errno) {
	if !isNet(n) {
		return api.Net{}, api.Parcel{}, api.ErrArg
	}
	rest, taken := api.Net{Last: n.Last}, []api.Parcel{}
	for i, p := range n.Flight {
		if i == place {
			taken = append(taken, p)
		} else {
			rest.Flight = append(rest.Flight, p)
		}
	}
	if len(taken) == 0 {
		return api.Net{}, api.Parcel{}, api.ErrNone
	}
	return rest, taken[0], api.OK
}

func twiceAnswer(n api.Net, place int) (api.Net, api.Errno) {
	_, p, e := takeAnswer(n, place)
	if e != api.OK {
		return api.Net{}, e
	}
	if len(n.Flight) >= 64 {
		return api.Net{}, api.ErrFull
	}
	return api.Net{Flight: slices.Concat(n.Flight, []api.Parcel{p}), Last: n.Last}, api.OK
}

func lastAnswer(n api.Net, place int) (api.Net, api.Errno) {
	rest, p, e := takeAnswer(n, place)
	if e != api.OK {
		return api.Net{}, e
	}
	return api.Net{Flight: append(rest.Flight, p), Last: n.Last}, api.OK
}

// answered holds a net that is answered against what it must be.
func answered(t *testing.T, call string, n, got api.Net, e api.Errno, want api.Net, wantE api.Errno) {
	t.Helper()
	if e != wantE || !same(got, want) {
		t.Fatalf("%s of %v = %v, %d; want %v, %d", call, n, got, e, want, wantE)
	}
	if e == api.OK && !net.Right(got) {
		t.Fatalf("%s of %v = %v, which may not be", call, n, got)
	}
}

// post is Post's answer, held so.
func post(t *testing.T, n api.Net, p api.Parcel) (api.Net, int, api.Errno) {
	t.Helper()
	got, no, e := net.Post(n, p)
	want, wantNo, wantE := postAnswer(n, p)
	answered(t, "Post", n, got, e, want, wantE)
	if no != wantNo {
		t.Fatalf("Post of %v to %v: number %d; want %d", p, n, no, wantNo)
	}
	return got, no, e
}

// take is Take's answer, held so.
func take(t *testing.T, n api.Net, place int) (api.Net, api.Parcel, api.Errno) {
	t.Helper()
	got, p, e := net.Take(n, place)
	want, wantP, wantE := takeAnswer(n, place)
	answered(t, "Take "+strconv.Itoa(place), n, got, e, want, wantE)
	if p != wantP {
		t.Fatalf("Take %d of %v: %v; want %v", place, n, p, wantP)
	}
	return got, p, e
}

// twice is Twice's answer, held so.
func twice(t *testing.T, n api.Net, place int) (api.Net, api.Errno) {
	t.Helper()
	got, e := net.Twice(n, place)
	want, wantE := twiceAnswer(n, place)
	answered(t, "Twice "+strconv.Itoa(place), n, got, e, want, wantE)
	return got, e
}

// last is Last's answer, held so.
func last(t *testing.T, n api.Net, place int) (api.Net, api.Errno) {
	t.Helper()
	got, e := net.Last(n, place)
	want, wantE := lastAnswer(n, place)
	answered(t, "Last "+strconv.Itoa(place), n, got, e, want, wantE)
	return got, e
}

// each are all calls' answers of a net, and of a parcel and a place, held so.
func each(t *testing.T, n api.Net, p api.Parcel, place int) {
	t.Helper()
	if net.Right(n) != isNet(n) {
		t.Fatalf("Right(%v) = %v", n, net.Right(n))
	}
	post(t, n, p)
	take(t, n, place)
	twice(t, n, place)
	last(t, n, place)
}

// edges are numbers at and beside all bounds, and far from them.
func edges() []int {
	return []int{
		math.MinInt, math.MinInt + 1, -most, -65, -64, -1, 0, 1, 2, 3, 4, 62, 63, 64, 65,
		1 << 32, 1<<32 + 1, most - 1, most, most + 1, 1 << 41, math.MaxInt - 1, math.MaxInt,
	}
}

// numbers are all of a parcel's numbers.
func numbers(p *api.Parcel) []*int {
	return []*int{&p.No, &p.Key, &p.Kind, &p.Order}
}

// besides are all that a parcel becomes if one of its numbers is another one, or it goes the other way, or says something else.
func besides(p api.Parcel) []api.Parcel {
	var l []api.Parcel
	for _, back := range []bool{false, true} {
		for _, yes := range []bool{false, true} {
			changed := p
			changed.Back, changed.Yes = back, yes
			l = append(l, changed)
			for i := range numbers(&changed) {
				n := *numbers(&changed)[i]
				for _, other := range append(edges(), n-1, n+1) {
					further := changed
					*numbers(&further)[i] = other
					l = append(l, further)
				}
			}
		}
	}
	return l
}

// parcelsThatMayBe are some of each kind, there and back.
func parcelsThatMayBe() []api.Parcel {
	var l []api.Parcel
	for i, n := range []int{1, 2, 50, most - 1, most} {
		for kind := 1; kind <= 3; kind++ {
			l = append(l, told(1+i, n, kind, 7), told(1+i, 7, kind, n), answer(1+i, n, kind, 7, false), answer(1+i, 7, kind, n, kind == 3))
		}
	}
	return l
}

// parcelsThatMayNotBe are the edges of all that a parcel has, but of its number.
func parcelsThatMayNotBe() []api.Parcel {
	l := []api.Parcel{{}, {No: 1}, answer(1, -1, -1, -1, true), told(1, most+1, 4, most+1), told(1, math.MinInt, math.MinInt, math.MinInt)}
	for _, n := range []int{math.MinInt, -most, -1, 0, most + 1, math.MaxInt} {
		l = append(l, told(1, n, 1, 5), told(1, 5, 1, n), answer(1, n, 3, 5, true), answer(1, 5, 3, n, true))
	}
	for _, n := range []int{math.MinInt, -1, 0, 4, 1 << 32, 1<<32 + 1, 1<<32 + 3, math.MaxInt} {
		l = append(l, told(1, 5, n, 5), answer(1, 5, n, 5, false), answer(1, 5, n, 5, true))
	}
	for kind := 1; kind <= 3; kind++ {
		yes := told(1, 5, kind, 5)
		yes.Yes = true
		l = append(l, yes)
	}
	return append(l, answer(1, 5, 1, 5, true), answer(1, 5, 2, 5, true))
}

// many are so many parcels, the same at each run, of numbers that go about, some of which come twice, of all kinds, there and back.
func many(seed uint32, n int) []api.Parcel {
	l := make([]api.Parcel, n)
	for i := range l {
		seed = seed*1664525 + 1013904223
		r := int(seed >> 12)
		l[i] = told(1+r%90, 1+r%70, 1+r%3, 1+r/3%40)
		l[i].Back = r/5%2 == 1
		l[i].Yes = l[i].Back && l[i].Kind == 3 && r/10%2 == 1
		if i > 0 && r%7 == 0 {
			l[i] = l[r/7%i]
		}
	}
	return l
}

// inOrder are so many parcels, no two alike, each of the number behind that of the one ahead.
func inOrder(n int) []api.Parcel {
	l := make([]api.Parcel, n)
	for i := range l {
		l[i] = told(i+1, 100+i, 1+i%3, 300-i)
	}
	return l
}

// netsThatMayBe are some of all sizes, by names.
func netsThatMayBe() map[string]api.Net {
	all := map[string]api.Net{
		"none":              {},
		"an empty list":     {Flight: []api.Parcel{}},
		"none, but numbers": {Last: 7},
		"none, one number":  {Last: most - 1},
		"none, all numbers": {Last: most},
		"the least":         flying(told(1, 1, 1, 1)),
		"the greatest":      flying(answer(most, most, 3, most, true)),
		"there and back":    flying(told(1, 1, 3, 1), answer(2, 1, 3, 1, true)),
		"turned about":      flying(told(3, 8, 1, 1), told(1, 7, 2, 1), told(2, 9, 3, 1)),
		"twice the same":    flying(told(1, 7, 2, 1), told(2, 9, 3, 1), told(1, 7, 2, 1)),
		"all the same":      flying(slices.Repeat([]api.Parcel{told(5, 5, 1, 5)}, 64)...),
		"one number, three": flying(told(4, 1, 1, 1), answer(4, 2, 2, 2, false), answer(4, 3, 3, 3, true)),
		"a key, two kinds":  flying(told(1, 5, 1, 5), told(2, 5, 2, 9)),
		"all numbers":       {Last: most, Flight: []api.Parcel{told(most, 1, 1, 1), told(1, 2, 2, 2)}},
		"numbers behind":    {Last: 50, Flight: []api.Parcel{told(3, 1, 1, 1), told(49, 2, 2, 2)}},
		"62":                flying(inOrder(62)...),
		"63":                flying(inOrder(63)...),
		"64":                flying(inOrder(64)...),
		"63, all numbers":   {Last: most, Flight: many(1, 63)},
		"64, all numbers":   {Last: most, Flight: many(2, 64)},
		"64, numbers":       {Last: 1000, Flight: many(3, 64)},
	}
	for n := 5; n < 64; n += 19 {
		all[strconv.Itoa(n)] = flying(many(uint32(n), n)...)
	}
	return all
}

// netsThatMayNotBe are some, by what is amiss.
func netsThatMayNotBe() map[string]api.Net {
	all := map[string]api.Net{
		"65":                  flying(inOrder(65)...),
		"65, of any order":    flying(many(5, 65)...),
		"128":                 flying(many(6, 128)...),
		"65 of zeros":         {Last: 5, Flight: make([]api.Parcel, 65)},
		"the same, often":     {Last: 5, Flight: slices.Repeat([]api.Parcel{told(1, 1, 1, 1)}, 1000)},
		"a number above Last": {Last: 4, Flight: []api.Parcel{told(1, 1, 1, 1), told(5, 2, 2, 2)}},
		"the first one above": {Last: 4, Flight: []api.Parcel{told(5, 1, 1, 1), told(1, 2, 2, 2)}},
		"one, and Last of 0":  {Flight: []api.Parcel{told(1, 1, 1, 1)}},
		"of 0, and Last of 0": {Flight: []api.Parcel{told(0, 1, 1, 1)}},
	}
	for _, n := range []int{math.MinInt, -most, -1, most + 1, 1 << 41, math.MaxInt} {
		all["none, Last "+strconv.Itoa(n)] = api.Net{Last: n}
		all["one, Last "+strconv.Itoa(n)] = api.Net{Last: n, Flight: []api.Parcel{told(1, 1, 1, 1)}}
		all["of number "+strconv.Itoa(n)] = api.Net{Last: most, Flight: []api.Parcel{told(n, 1, 1, 1)}}
		all["of number and Last "+strconv.Itoa(n)] = api.Net{Last: n, Flight: []api.Parcel{told(n, 1, 1, 1)}}
	}
	amiss := append(parcelsThatMayNotBe(), told(0, 1, 1, 1), told(-1, 1, 1, 1), told(101, 1, 1, 1), told(math.MaxInt, 1, 1, 1))
	for i, p := range amiss {
		name := strconv.Itoa(i)
		all["one alone, "+name] = api.Net{Last: 100, Flight: []api.Parcel{p}}
		all["one ahead, "+name] = api.Net{Last: 100, Flight: []api.Parcel{p, told(6, 2, 2, 5), told(7, 2, 3, 5)}}
		all["one between, "+name] = api.Net{Last: 100, Flight: []api.Parcel{told(4, 2, 2, 5), p, told(6, 2, 3, 5)}}
		all["one behind, "+name] = api.Net{Last: 100, Flight: []api.Parcel{told(3, 2, 2, 5), told(4, 2, 3, 5), p}}
		all["one of 64, "+name] = api.Net{Last: 100, Flight: append(many(7, 63), p)}
	}
	return all
}

// rows are all rows of up to so many, out of those.
func rows[T any](of []T, upTo int) [][]T {
	all, last := [][]T{nil}, [][]T{nil}
	for range upTo {
		var next [][]T
		for _, l := range last {
			for _, x := range of {
				next = append(next, append(slices.Clone(l), x))
			}
		}
		all, last = append(all, next...), next
	}
	return all
}
