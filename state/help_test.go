package state_test

import (
	"cmp"
	"maps"
	"math"
	"reflect"
	"slices"
	"strconv"
	"strings"
	"testing"

	"tarry/api"
	"tarry/goods"
	"tarry/order"
	"tarry/outbox"
	"tarry/state"
	"tarry/stock"
	"tarry/timer"
	"tarry/waits"
)

const most = 1 << 40 // of a time, of an order, and of a key

// The words of the chapter, each said otherwise than the program says it.

func isOrders(l []api.Order) bool {
	if len(l) > 32 {
		return false
	}
	ids, seqs := map[int]int{}, map[int]int{}
	var row []int
	for _, o := range l {
		if !order.Right(o) {
			return false
		}
		ids[o.Id]++
		seqs[o.Seq]++
		row = append(row, o.Id)
	}
	return len(seqs) == len(l) && slices.Equal(row, slices.Sorted(maps.Keys(ids)))
}

func isLive(o api.Order) bool {
	return order.Right(o) && (o.Phase == 1 || o.Phase == 2 && !o.Ends)
}

func toldAnswer(o api.Order) []int {
	var kinds []int
	for kind, told := range []bool{
		1: order.Right(o) && o.Phase == 2,
		2: isLive(o) && o.Pay.State == 2,
		3: isLive(o) && o.Ask.State == 1,
	} {
		if told {
			kinds = append(kinds, kind)
		}
	}
	return kinds
}

func waitsAnswer(l []api.Order) ([]api.Line, api.Errno) {
	if !isOrders(l) {
		return nil, api.ErrArg
	}
	var all []api.Line
	for _, o := range l {
		if o.Phase == 1 {
			all = append(all, api.Line{Sku: o.Sku, Wait: api.Wait{Class: o.Class, Seq: o.Seq, Order: o.Id}})
		}
	}
	slices.SortFunc(all, func(a, b api.Line) int {
		return cmp.Or(strings.Compare(a.Sku, b.Sku), a.Wait.Class-b.Wait.Class, a.Wait.Seq-b.Wait.Seq)
	})
	return all, api.OK
}

func timersAnswer(l []api.Order) ([]api.Timer, api.Errno) {
	if !isOrders(l) {
		return nil, api.ErrArg
	}
	var rows [][3]int
	for _, o := range l {
		if !isLive(o) {
			continue
		}
		rows = append(rows, [3]int{o.Cutoff, 1, o.Id})
		if o.Pay.State == 1 {
			rows = append(rows, [3]int{o.Pay.Until, 2, o.Id})
		}
		if o.Ask.State == 1 || o.Ask.State == 2 {
			rows = append(rows, [3]int{o.Ask.Until, 3, o.Id})
		}
	}
	slices.SortFunc(rows, func(a, b [3]int) int { return slices.Compare(a[:], b[:]) })
	var all []api.Timer
	for _, r := range rows {
		all = append(all, api.Timer{At: r[0], Kind: r[1], Order: r[2]})
	}
	return all, api.OK
}

// toldBy are what orders have told and what is told, each as its kind, its order and, of OShip, its key, in order.
func toldBy(l []api.Order) [][3]int {
	var all [][3]int
	for _, o := range l {
		for _, kind := range toldAnswer(o) {
			all = append(all, [3]int{kind, o.Id, map[int]int{1: o.Load.Key}[kind]})
		}
	}
	return inOrder(all)
}

func toldIn(rows []api.Out) [][3]int {
	var all [][3]int
	for _, x := range rows {
		all = append(all, [3]int{x.Kind, x.Order, map[int]int{1: x.Key}[x.Kind]})
	}
	return inOrder(all)
}

func inOrder(l [][3]int) [][3]int {
	slices.SortFunc(l, func(a, b [3]int) int { return slices.Compare(a[:], b[:]) })
	return l
}

func isTick(n int) bool { return uint(n) <= most }

func isState(s api.State) bool {
	if !goods.Right(s.Goods) || !stock.Right(s.Stock) || !isOrders(s.Orders) || !outbox.Right(s.Out) {
		return false
	}
	names, held, seq := map[string]int{}, map[string]int{}, 0
	for _, sku := range s.Goods.Skus {
		names[sku] = 1
	}
	known := len(names)
	for _, r := range s.Stock {
		names[r.Sku]++
		held[r.Sku] += r.Held
	}
	for _, o := range s.Orders {
		names[o.Sku]++
		if o.Phase == 2 {
			names[o.Load.Sku]++
			held[o.Load.Sku] -= o.Load.Units
		}
		seq = max(seq, o.Seq)
	}
	for _, n := range held {
		if n != 0 {
			return false
		}
	}
	waits, _ := waitsAnswer(s.Orders)
	timers, _ := timersAnswer(s.Orders)
	for _, x := range timers {
		if s.Now >= x.At {
			return false
		}
	}
	return len(names) == known && isTick(s.Now) && isTick(s.Seq) && seq <= s.Seq &&
		slices.Equal(s.Waits, waits) && slices.Equal(s.Timers, timers) && slices.Equal(toldIn(s.Out.Rows), toldBy(s.Orders))
}

// like tells whether states are the same, by their own words; no list is an empty one.
func like(a, b api.State) bool {
	return reflect.DeepEqual(clone(a), clone(b))
}

// clone is a state whose lists are its own, with nothing behind their ends; those that are empty are none.
func clone(s api.State) api.State {
	copied := s
	copied.Goods = api.Goods{Skus: part(s.Goods.Skus), Subs: part(s.Goods.Subs)}
	copied.Stock, copied.Orders = part(s.Stock), part(s.Orders)
	copied.Waits, copied.Timers = part(s.Waits), part(s.Timers)
	copied.Out.Rows = part(s.Out.Rows)
	return copied
}

func part[T any](l []T) []T {
	if len(l) == 0 {
		return nil
	}
	return slices.Clip(slices.Clone(l))
}

// The bytes, by the words of chapter 1, the row's and the state's.

func num(n int) string {
	twice := uint64(n) << 1
	if n < 0 {
		twice = ^twice
	}
	var digits []byte
	for {
		digits = append(digits, byte(twice&127|128))
		if twice >>= 7; twice == 0 {
			digits[len(digits)-1] &= 127
			return string(digits)
		}
	}
}

func row(texts ...string) string {
	s := num(len(texts))
	for _, text := range texts {
		s += num(len(text)) + text
	}
	return s
}

func truth(yes bool) string {
	return map[bool]string{false: "\x00", true: "\x02"}[yes]
}

// rows is a row of what each of a list comes to.
func rows[T any](l []T, of func(T) string) string {
	var texts []string
	for _, x := range l {
		texts = append(texts, of(x))
	}
	return row(texts...)
}

func subText(s api.Sub) string { return row(s.From, s.To, num(s.Rank), num(s.Num), num(s.Den)) }

func stockText(r api.Row) string {
	return row(r.Sku, num(r.In), num(r.Free), num(r.Held), num(r.Shipped), num(r.Lost))
}

func orderText(o api.Order) string {
	return row(num(o.Id), o.Sku, num(o.Class), num(o.Seq), num(o.Need), num(o.Done), num(o.Price), num(o.Cutoff), truth(o.Split), num(o.Phase),
		o.Load.Sku, num(o.Load.Units), num(o.Load.Counts), num(o.Load.Key),
		num(o.Pay.Amount), num(o.Pay.Caught), num(o.Pay.Until), num(o.Pay.State), num(o.Ask.State), num(o.Ask.Until), truth(o.Ends))
}

func outText(x api.Out) string { return row(num(x.Key), num(x.Kind), num(x.Order), num(x.Due)) }

// bytesOf are a state's, whether it may be or not, however many they are.
func bytesOf(s api.State) string {
	return row(row(s.Goods.Skus...), rows(s.Goods.Subs, subText), rows(s.Stock, stockText), rows(s.Orders, orderText), rows(s.Out.Rows, outText),
		row(num(s.Out.Last), num(s.Now), num(s.Seq)))
}

func textAnswer(s api.State) (string, api.Errno) {
	if !isState(s) {
		return "", api.ErrArg
	}
	if text := bytesOf(s); len(text) < 3001 {
		return text, api.OK
	}
	return "", api.ErrLong
}

// readAnswer guesses what state a text may be of, as if nothing in it were odd, and asks whether that one's text is it.
func readAnswer(text string) (api.State, api.Errno) {
	s := guess(text)
	if answer, e := textAnswer(s); e != api.OK || answer != text {
		return api.State{}, api.ErrSyntax
	}
	return s, api.OK
}

func guess(text string) api.State {
	parts := append(texts(text), make([]string, 6)...)
	last := numbers(parts[5], 3)
	s := api.State{Goods: api.Goods{Skus: texts(parts[0])}, Out: api.Outbox{Last: last[0]}, Now: last[1], Seq: last[2]}
	for _, sub := range texts(parts[1]) {
		f, n := append(texts(sub), make([]string, 5)...), numbers(sub, 5)
		s.Goods.Subs = append(s.Goods.Subs, api.Sub{From: f[0], To: f[1], Rank: n[2], Num: n[3], Den: n[4]})
	}
	for _, r := range texts(parts[2]) {
		f, n := append(texts(r), make([]string, 6)...), numbers(r, 6)
		s.Stock = append(s.Stock, api.Row{Sku: f[0], In: n[1], Free: n[2], Held: n[3], Shipped: n[4], Lost: n[5]})
	}
	for _, o := range texts(parts[3]) {
		f, n := append(texts(o), make([]string, 21)...), numbers(o, 21)
		s.Orders = append(s.Orders, api.Order{
			Id: n[0], Sku: f[1], Class: n[2], Seq: n[3], Need: n[4], Done: n[5], Price: n[6], Cutoff: n[7], Split: n[8] == 1, Phase: n[9],
			Load: api.Load{Sku: f[10], Units: n[11], Counts: n[12], Key: n[13]},
			Pay:  api.Pay{Amount: n[14], Caught: n[15], Until: n[16], State: n[17]},
			Ask:  api.Ask{State: n[18], Until: n[19]},
			Ends: n[20] == 1,
		})
	}
	for _, x := range texts(parts[4]) {
		n := numbers(x, 4)
		s.Out.Rows = append(s.Out.Rows, api.Out{Key: n[0], Kind: n[1], Order: n[2], Due: n[3]})
	}
	s.Waits, _ = waitsAnswer(s.Orders)
	s.Timers, _ = timersAnswer(s.Orders)
	return s
}

// numbers are at least so many of a row's texts, as numbers.
func numbers(text string, n int) []int {
	var l []int
	for _, f := range texts(text) {
		number, _ := first(f)
		l = append(l, number)
	}
	return append(l, make([]int, n)...)
}

func texts(text string) []string {
	n, text := first(text)
	var l []string
	for ; n > 0 && text != ""; n-- {
		var size int
		size, text = first(text)
		size = min(max(size, 0), len(text))
		l = append(l, text[:size])
		text = text[size:]
	}
	return l
}

func first(text string) (int, string) {
	var u uint64
	for i := range len(text) {
		u |= uint64(text[i]&127) << (7 * i)
		if text[i] < 128 {
			return int(u>>1) ^ -int(u&1), text[i+1:]
		}
	}
	return 0, ""
}

// held asks all calls of a state, and holds what they answer against what they must.
func held(t *testing.T, s api.State) {
	t.Helper()
	if state.Right(s) != isState(s) {
		t.Fatalf("Right = %v: %+v", !isState(s), s)
	}
	heldOrders(t, s.Orders)
	written(t, s)
	read(t, bytesOf(s))
}

// heldOrders holds, too, that what orders make stands as the layers below say.
func heldOrders(t *testing.T, l []api.Order) {
	t.Helper()
	index, e := state.Waits(l)
	if want, wantE := waitsAnswer(l); e != wantE || !slices.Equal(index, want) || !waits.Right(index) {
		t.Fatalf("Waits = %v, %d; want %v, %d: %+v", index, e, want, wantE, l)
	}
	due, e := state.Timers(l)
	if want, wantE := timersAnswer(l); e != wantE || !slices.Equal(due, want) || !timer.Right(due) {
		t.Fatalf("Timers = %v, %d; want %v, %d: %+v", due, e, want, wantE, l)
	}
	for _, o := range l {
		heldOrder(t, o)
	}
}

func heldOrder(t *testing.T, o api.Order) {
	t.Helper()
	if state.Live(o) != isLive(o) {
		t.Fatalf("Live = %v: %+v", !isLive(o), o)
	}
	if got, want := state.Told(o), toldAnswer(o); !slices.Equal(got, want) {
		t.Fatalf("Told = %v; want %v: %+v", got, want, o)
	}
}

// written is Text's answer, held so.
func written(t *testing.T, s api.State) (string, api.Errno) {
	t.Helper()
	text, e := state.Text(s)
	if want, wantE := textAnswer(s); text != want || e != wantE {
		t.Fatalf("Text = %q, %d; want %q, %d: %+v", text, e, want, wantE, s)
	}
	return text, e
}

// read is Read's answer, held so.
func read(t *testing.T, text string) (api.State, api.Errno) {
	t.Helper()
	s, e := state.Read(text)
	if want, wantE := readAnswer(text); e != wantE || !like(s, want) {
		t.Fatalf("Read of %q = %+v, %d; want %+v, %d", text, s, e, want, wantE)
	}
	return s, e
}

// Orders, and states of them.

func waiting(id int, sku string, class, need, price int) api.Order {
	return api.Order{
		Id: id, Sku: sku, Class: class, Seq: id, Need: need, Price: price, Cutoff: 60 + id,
		Phase: api.PWait, Pay: api.Pay{Amount: need * price, Until: 40 + id, State: api.PGood},
	}
}

// sending is an order on whose behalf units are on their way, told by a key.
func sending(o api.Order, sku string, units, counts, key int) api.Order {
	o.Phase, o.Load = api.PSend, api.Load{Sku: sku, Units: units, Counts: counts, Key: key}
	return o
}

func come(o api.Order, n int) api.Order {
	o.Done += n
	o.Pay.Caught += n * o.Price
	return o
}

func closed(o api.Order, phase int) api.Order {
	o.Phase, o.Load, o.Ends, o.Pay.State = phase, api.Load{}, false, api.PClosed
	return o
}

func renewing(o api.Order) api.Order {
	o.Pay.State, o.Pay.Until = api.PRenew, 3
	return o
}

func asking(o api.Order, state, until int) api.Order {
	o.Ask = api.Ask{State: state, Until: until}
	return o
}

func ending(o api.Order) api.Order {
	o.Ends = true
	return o
}

func in(s string) []string { return strings.Fields(s) }

// of is the state that orders make, of all names that are known: there is stock of each of them, but of the last one just if it is held.
func of(names string, orders ...api.Order) api.State {
	s := api.State{Goods: api.Goods{Skus: in(names)}, Orders: orders}
	for i, sku := range s.Goods.Skus {
		r := api.Row{Sku: sku, Free: i, Shipped: 70 * i, Lost: 2 * i}
		for _, o := range orders {
			if o.Load.Sku == sku {
				r.Held += o.Load.Units
			}
		}
		r.In = r.Free + r.Held + r.Shipped + r.Lost
		if i+1 < len(s.Goods.Skus) || r.Held > 0 {
			s.Stock = append(s.Stock, r)
		}
	}
	for i, o := range orders {
		s.Seq = max(s.Seq, o.Seq)
		for _, kind := range toldAnswer(o) {
			x := api.Out{Key: o.Load.Key, Kind: kind, Order: o.Id, Due: 7 * i}
			if kind != api.OShip {
				x.Key = 1000*kind - 10*i
			}
			s.Out.Rows = append(s.Out.Rows, x)
		}
	}
	slices.SortFunc(s.Out.Rows, func(a, b api.Out) int { return a.Key - b.Key })
	for _, x := range s.Out.Rows {
		s.Out.Last = x.Key
	}
	s.Waits, _ = waitsAnswer(orders)
	s.Timers, _ = timersAnswer(orders)
	return s
}

// ofAll is a state that has one of each: goods, a rule, stock, orders in all phases, of all that is told.
func ofAll() api.State {
	s := of("cup jar mug",
		waiting(1, "cup", 2, 5, 7),
		sending(asking(renewing(waiting(2, "jar", 0, 4, 9)), api.AAsked, 30), "mug", 6, 3, 17),
		closed(come(waiting(4, "mug", 1, 2, 3), 2), api.PDone),
		ending(sending(come(waiting(5, "cup", 3, 9, 1), 4), "cup", 5, 5, 4)),
		closed(come(waiting(6, "cup", 0, 8, 2), 3), api.PPart),
		closed(waiting(70, "jar", 0, 1, 1), api.PCancel),
		asking(waiting(90, "cup", 0, 3, 3), api.AYes, 20),
		renewing(waiting(200, "mug", 1, 3, 5)),
	)
	s.Goods.Subs = []api.Sub{{From: "cup", To: "mug", Rank: 1, Num: 3, Den: 2}, {From: "jar", To: "mug", Rank: 4, Num: 2, Den: 1}}
	s.Orders[0].Split = true
	s.Now, s.Out.Last = 19, 5000
	return s
}

// statesThatMayBe are some of all sizes, by names.
func statesThatMayBe() map[string]api.State {
	all := map[string]api.State{
		"of nothing":        {},
		"of empty lists":    {Goods: api.Goods{Skus: []string{}, Subs: []api.Sub{}}, Stock: []api.Row{}, Orders: []api.Order{}, Waits: []api.Line{}, Timers: []api.Timer{}, Out: api.Outbox{Rows: []api.Out{}}},
		"at the last time":  {Out: api.Outbox{Last: most}, Now: most, Seq: most},
		"of goods alone":    {Goods: api.Goods{Skus: in("a b c d e f g h")}},
		"of goods, stock":   of("a b c d e f g h"),
		"of one":            of("cup jar", waiting(1, "cup", 0, 1, 1)),
		"of one of no rows": of("cup", waiting(1, "cup", 3, 1, 1)),
		"of one that goes":  of("cup", sending(waiting(1, "cup", 0, 1, 1), "cup", 1, 1, 1)),
		"of one that ends":  of("cup", ending(sending(waiting(1, "cup", 0, 2, 1), "cup", 1, 1, 1))),
		"of one renewing":   of("cup jar", renewing(waiting(1, "cup", 0, 2, 1))),
		"of one asked":      of("cup jar", asking(waiting(1, "cup", 0, 2, 1), api.AAsked, 1)),
		"of one that is no": of("cup jar", asking(waiting(1, "cup", 0, 2, 1), api.ANo, 0)),
		"of one at its end": of("cup jar", closed(waiting(1, "cup", 0, 2, 1), api.PCancel)),
		"of all":            ofAll(),
		"of great numbers":  great(),
		"ends, when over":   over(),
		"32":                many(1, 32),
	}
	for n := 3; n < 32; n += 7 {
		all[strconv.Itoa(n)] = many(uint32(n), n)
	}
	return all
}

// great is of numbers at their greatest.
func great() api.State {
	sku := strings.Repeat("z", 16)
	o := sending(waiting(most, sku, 3, 1<<25, 1<<25), sku, 1<<25, 1<<25, most)
	o.Cutoff, o.Pay.Until, o.Ask = most, most, api.Ask{State: api.AYes, Until: most}
	s := of("cup "+sku, o)
	s.Stock[1] = api.Row{Sku: sku, In: 1 << 30, Free: 1<<30 - 1<<25, Held: 1 << 25}
	s.Now, s.Out.Rows[0].Due = most-1, most
	return s
}

// over is of such orders alone as have no timer, at a time behind all of theirs.
func over() api.State {
	s := of("cup jar",
		ending(sending(waiting(1, "cup", 0, 2, 1), "cup", 2, 2, 4)),
		closed(come(waiting(2, "cup", 0, 2, 1), 2), api.PDone),
		ending(sending(asking(renewing(waiting(3, "jar", 0, 2, 1)), api.AAsked, 30), "cup", 9, 1, 5)))
	s.Now = most
	return s
}

// dice are the same at each run.
type dice uint32

func (d *dice) below(n int) int {
	*d = *d*1664525 + 1013904223
	return int(*d>>8) % n
}

// many is a state of so many orders, in all phases.
func many(seed uint32, n int) api.State {
	d, names := dice(seed*977+5), in("bag cup jar mug pan")
	var l []api.Order
	for i := range n {
		l = append(l, some(&d, 3*i+1+d.below(3), 5*(n-i)+d.below(5), 50*i+1+d.below(50), names))
	}
	s := of("bag cup jar mug pan", l...)
	s.Now, s.Seq = d.below(10), s.Seq+d.below(3)
	s.Goods.Subs = []api.Sub{{From: "cup", To: "mug", Rank: 1 + d.below(4), Num: 1 + d.below(100), Den: 2}}
	if d.below(2) == 0 {
		s.Goods.Subs = append(s.Goods.Subs, api.Sub{From: "cup", To: "pan", Rank: 5 + d.below(5), Num: 1, Den: 1 + d.below(100)})
	}
	s.Out.Last += d.below(9)
	return s
}

// some is an order that may be, of a number, time of coming and key.
func some(d *dice, id, seq, key int, names []string) api.Order {
	o := waiting(id, names[d.below(len(names))], d.below(4), 2+d.below(100), 1+d.below(100))
	o.Seq, o.Cutoff, o.Split = seq+1, 10+d.below(300), d.below(2) == 0
	o.Pay.Until = 10 + d.below(300)
	if d.below(3) == 0 {
		o = renewing(o)
	}
	if d.below(2) == 0 {
		o = asking(o, 1+d.below(3), 10+d.below(300))
	}
	if d.below(2) == 0 {
		o = come(o, 1+d.below(o.Need-1))
	}
	switch d.below(6) {
	case 0:
		return closed(come(o, o.Need-o.Done), api.PDone)
	case 1:
		if o.Done == 0 {
			return closed(o, api.PCancel)
		}
		return closed(o, api.PPart)
	case 2, 3:
		counts := 1 + d.below(o.Need-o.Done)
		o.Ends = d.below(3) == 0
		if d.below(2) == 0 {
			return sending(o, o.Sku, counts, counts, key)
		}
		o = sending(o, names[d.below(len(names))], 1+d.below(50), counts, key)
		if o.Load.Sku == o.Sku {
			o.Load.Units = counts
		}
	}
	return o
}

// changed is a state that a hand changed, with lists of its own.
func changed(s api.State, by func(s *api.State)) api.State {
	s = clone(s)
	by(&s)
	return s
}

// remade is one so, whose indexes are those of its orders.
func remade(s api.State, by func(s *api.State)) api.State {
	s = changed(s, by)
	s.Waits, _ = waitsAnswer(s.Orders)
	s.Timers, _ = timersAnswer(s.Orders)
	return s
}

// statesThatMayNotBe are some, by what is amiss.
func statesThatMayNotBe() map[string]api.State {
	all := ofAll()
	return map[string]api.State{
		"a time below 0":             {Now: -1},
		"a time too late":            {Now: most + 1},
		"a Seq below 0":              {Seq: -1},
		"a Seq too great":            {Seq: most + 1},
		"the least of numbers":       {Now: math.MinInt, Seq: math.MinInt},
		"keys below 0":               {Out: api.Outbox{Last: -1}},
		"a wait of no order":         {Waits: []api.Line{{}}},
		"a timer of no order":        {Timers: []api.Timer{{At: 5, Kind: 1, Order: 1}}},
		"no goods, but stock":        {Stock: []api.Row{{Sku: "cup"}}},
		"told by no order":           {Out: api.Outbox{Last: 1, Rows: []api.Out{{Key: 1, Kind: 3, Order: 1}}}},
		"goods turned":               changed(all, func(s *api.State) { slices.Reverse(s.Goods.Skus) }),
		"goods that may not be":      changed(all, func(s *api.State) { s.Goods.Skus[0] = "Cup" }),
		"a rule of no goods":         changed(all, func(s *api.State) { s.Goods.Subs[0].From = "bag" }),
		"stock turned":               changed(all, func(s *api.State) { slices.Reverse(s.Stock) }),
		"stock that does not add up": changed(all, func(s *api.State) { s.Stock[0].In++ }),
		"stock of no goods":          changed(all, func(s *api.State) { s.Stock = append(s.Stock, api.Row{Sku: "pan"}) }),
		"too much held":              changed(all, func(s *api.State) { s.Stock[2].In++; s.Stock[2].Held++ }),
		"too little held":            changed(all, func(s *api.State) { s.Stock[2].In--; s.Stock[2].Held-- }),
		"held of what is not sent":   changed(all, func(s *api.State) { s.Stock[1].Held, s.Stock[1].Free = s.Stock[1].Free, 0 }),
		"sent, and no row of it":     changed(all, func(s *api.State) { s.Stock = s.Stock[:2] }),
		"no row of all":              changed(all, func(s *api.State) { s.Stock = nil }),
		"orders turned":              remade(all, func(s *api.State) { slices.Reverse(s.Orders) }),
		"a number twice":             remade(all, func(s *api.State) { s.Orders[1].Id = 1 }),
		"an order twice":             remade(all, func(s *api.State) { s.Orders = slices.Insert(s.Orders, 0, s.Orders[0]) }),
		"two that came at once":      remade(all, func(s *api.State) { s.Orders[0].Seq = 6 }),
		"one behind the last Seq":    remade(all, func(s *api.State) { s.Orders[4].Seq = 201 }),
		"an order that may not be":   remade(all, func(s *api.State) { s.Orders[2].Done = 1 }),
		"an order of no goods":       remade(all, func(s *api.State) { s.Orders[0].Sku = "pan" }),
		"an order, over, of none":    remade(all, func(s *api.State) { s.Orders[2].Sku = "pan" }),
		"a load of no goods": remade(all, func(s *api.State) {
			s.Orders[1].Load.Sku = "pan"
			s.Stock[2].Held, s.Stock[2].Free = 0, s.Stock[2].Free+s.Stock[2].Held
		}),
		"a load of another key":     remade(all, func(s *api.State) { s.Orders[1].Load.Key++ }),
		"a cutoff now":              remade(all, func(s *api.State) { s.Orders[0].Cutoff = 19 }),
		"money over now":            remade(all, func(s *api.State) { s.Orders[0].Pay.Until = 19 }),
		"a yes over now":            remade(all, func(s *api.State) { s.Now = 20 }),
		"a time behind all":         remade(all, func(s *api.State) { s.Now = most }),
		"none of the waits":         changed(all, func(s *api.State) { s.Waits = nil }),
		"none of the timers":        changed(all, func(s *api.State) { s.Timers = nil }),
		"nothing told":              changed(all, func(s *api.State) { s.Out.Rows = nil }),
		"waits turned":              changed(all, func(s *api.State) { slices.Reverse(s.Waits) }),
		"timers turned":             changed(all, func(s *api.State) { slices.Reverse(s.Timers) }),
		"a wait, moved":             changed(all, func(s *api.State) { s.Waits[0].Wait.Class = 1 }),
		"a timer, later":            changed(all, func(s *api.State) { s.Timers[0].At++ }),
		"not told to ship":          remade(all, func(s *api.State) { s.Out.Rows = s.Out.Rows[1:] }),
		"told to ship too late":     remade(all, func(s *api.State) { s.Out.Rows[0].Key++ }),
		"told of another order":     remade(all, func(s *api.State) { s.Out.Rows[0].Order = 1 }),
		"told another thing":        remade(all, func(s *api.State) { s.Out.Rows[0].Kind = 2 }),
		"asked, though it said yes": remade(all, func(s *api.State) { s.Orders[6].Ask.State = 1 }),
		"told above the last key":   remade(all, func(s *api.State) { s.Out.Last = 17 }),
		"33":                        many(5, 33),
		"100":                       many(6, 100),
		"33, closed":                of("cup", slices.Repeat([]api.Order{closed(waiting(1, "cup", 0, 1, 1), api.PCancel)}, 33)...),
		"nine goods":                of("a b c d e f g h i"),
	}
}

// leaves are all that stands in a value, down to numbers, names and truths, and, apart, all lists.
func leaves(v reflect.Value) (ends, lists []reflect.Value) {
	switch v.Kind() {
	case reflect.Struct:
		for i := range v.NumField() {
			e, l := leaves(v.Field(i))
			ends, lists = append(ends, e...), append(lists, l...)
		}
		return ends, lists
	case reflect.Slice:
		lists = append(lists, v)
		for i := range v.Len() {
			e, l := leaves(v.Index(i))
			ends, lists = append(ends, e...), append(lists, l...)
		}
		return ends, lists
	}
	return []reflect.Value{v}, nil
}

// others are unlike values for such an end.
func others(v reflect.Value) []any {
	var l []any
	switch v.Kind() {
	case reflect.Bool:
		return []any{!v.Bool()}
	case reflect.String:
		for _, s := range []string{"", "a", "bag", "cup", "jar", "mug", "zoo", "Cup", "a-b", strings.Repeat("z", 16), strings.Repeat("z", 17), strings.Repeat("a", 4097)} {
			if s != v.String() {
				l = append(l, s)
			}
		}
		return l
	}
	n := int(v.Int())
	for _, x := range []int{n - 1, n + 1, math.MinInt, -1, 0, 1, 2, 3, 4, 5, 6, 19, 20, 90, 1 << 30, 1<<30 + 1, most - 1, most, most + 1, 1 << 50, math.MaxInt} {
		if x != n {
			l = append(l, x)
		}
	}
	return l
}

// besides hands on all that a state becomes, if one thing in it is another one, or one of a list is gone, is there twice, or stands behind the next one.
func besides(s api.State, yield func(api.State)) {
	count := func() (int, int) {
		ends, lists := leaves(reflect.ValueOf(&s).Elem())
		return len(ends), len(lists)
	}
	ends, lists := count()
	for i := range ends {
		at := func(s *api.State) reflect.Value { l, _ := leaves(reflect.ValueOf(s).Elem()); return l[i] }
		for _, x := range others(at(&s)) {
			yield(changed(s, func(s *api.State) { at(s).Set(reflect.ValueOf(x).Convert(at(s).Type())) }))
		}
	}
	for i := range lists {
		at := func(s *api.State) reflect.Value { _, l := leaves(reflect.ValueOf(s).Elem()); return l[i] }
		for k := range at(&s).Len() {
			yield(changed(s, func(s *api.State) {
				l := at(s)
				l.Set(reflect.AppendSlice(l.Slice3(0, k, k), l.Slice(k+1, l.Len())))
			}))
			yield(changed(s, func(s *api.State) {
				l := at(s)
				l.Set(reflect.AppendSlice(l.Slice3(0, k+1, k+1), l.Slice(k, l.Len())))
			}))
			if k > 0 {
				yield(changed(s, func(s *api.State) { reflect.Swapper(at(s).Interface())(k-1, k) }))
			}
		}
	}
}
