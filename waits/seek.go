package waits

import (
	"slices"
	"sort"

	"tarry/api"
	"tarry/queue"
)

// below tells how lines stand.
func below(a, b api.Line) bool {
	if a.Sku != b.Sku {
		return a.Sku < b.Sku
	}
	return queue.Less(a.Wait, b.Wait)
}

// rises tells whether each line stands above the one ahead of it.
func rises(l []api.Line) bool {
	for i := 1; i < len(l); i++ {
		if !below(l[i-1], l[i]) {
			return false
		}
	}
	return true
}

// sought is a line whose place in an index is asked for.
type sought struct {
	index []api.Line
	line  api.Line
}

// reached tells whether the line's place is at i, or ahead of it.
func (s sought) reached(i int) bool { return !below(s.index[i], s.line) }

// place is where a line stands in an index, or would.
func place(l []api.Line, x api.Line) int {
	return sort.Search(len(l), sought{l, x}.reached)
}

// number is that of an order whose line is asked for.
type number int

func (n number) isOf(x api.Line) bool { return x.Wait.Order == int(n) }

// placeOf is where an order's line stands. Lines do not stand by their orders' numbers, so that one by one is asked.
func placeOf(l []api.Line, order int) (int, api.Errno) {
	if !Right(l) {
		return 0, api.ErrArg
	}
	at := slices.IndexFunc(l, number(order).isOf)
	if at < 0 {
		return 0, api.ErrNone
	}
	return at, api.OK
}

// put is an index with a line in its place. It is a new list, for nobody's is changed.
func put(l []api.Line, x api.Line) []api.Line {
	at := place(l, x)
	return slices.Concat(l[:at], []api.Line{x}, l[at:])
}

// without is an index without the line at a place, so new.
func without(l []api.Line, at int) []api.Line {
	return slices.Concat(l[:at], l[at+1:])
}
