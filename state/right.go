package state

import (
	"slices"

	"tarry/api"
	"tarry/goods"
	"tarry/order"
	"tarry/outbox"
	"tarry/stock"
	"tarry/waits"
)

func partsMayBe(s api.State) bool {
	return goods.Right(s.Goods) && stock.Right(s.Stock) && ordersMayBe(s.Orders) && outbox.Right(s.Out)
}

func ordersMayBe(l []api.Order) bool {
	if len(l) > api.MaxOrders {
		return false
	}
	var seqs []int
	for i, o := range l {
		if !order.Right(o) || i > 0 && o.Id <= l[i-1].Id || slices.Contains(seqs, o.Seq) {
			return false
		}
		seqs = append(seqs, o.Seq)
	}
	return true
}

// namesAreKnown tells whether all that is in stock, ordered or sent is among the goods.
func namesAreKnown(s api.State) bool {
	isKnown := func(sku string) bool { return slices.Contains(s.Goods.Skus, sku) }
	for _, r := range s.Stock {
		if !isKnown(r.Sku) {
			return false
		}
	}
	for _, o := range s.Orders {
		if !isKnown(o.Sku) || o.Phase == api.PSend && !isKnown(o.Load.Sku) {
			return false
		}
	}
	return true
}

// clockMayBe tells whether the time may be, and the last order's coming, behind which none came.
func clockMayBe(s api.State) bool {
	return isTick(s.Now) && isTick(s.Seq) &&
		!slices.ContainsFunc(s.Orders, func(o api.Order) bool { return o.Seq > s.Seq })
}

func isTick(n int) bool {
	return 0 <= n && n <= api.MaxTick
}

// holdsWhatIsSent tells whether just the units are held that are on their way. All names are known, so that those of the goods are all.
func holdsWhatIsSent(s api.State) bool {
	for _, sku := range s.Goods.Skus {
		// Where there is no row, the one that is answered has nothing.
		r, _ := stock.Get(s.Stock, sku)
		if r.Held != sent(s.Orders, sku) {
			return false
		}
	}
	return true
}

func sent(l []api.Order, sku string) int {
	units := 0
	for _, o := range l {
		if o.Load.Sku == sku {
			units += o.Load.Units
		}
	}
	return units
}

// isIndexed tells whether waits and timers are those that the orders make, and no time is over.
func isIndexed(s api.State) bool {
	index, err := waits.Make(lines(s.Orders))
	return err == api.OK && slices.Equal(s.Waits, index) && slices.Equal(s.Timers, timers(s.Orders)) &&
		!slices.ContainsFunc(s.Timers, func(x api.Timer) bool { return x.At <= s.Now })
}

// tellsWhatIsTold tells whether just that is told that the orders have told.
func tellsWhatIsTold(s api.State) bool {
	found := 0
	for _, o := range s.Orders {
		for _, kind := range Told(o) {
			at := slices.IndexFunc(s.Out.Rows, func(x api.Out) bool { return x.Kind == kind && x.Order == o.Id })
			if at < 0 || kind == api.OShip && s.Out.Rows[at].Key != o.Load.Key {
				return false
			}
			found++
		}
	}
	// No two rows are of one kind and order, so that, if these are all, there is no other one.
	return found == len(s.Out.Rows)
}
