package order

import (
	"tarry/api"
	"tarry/goods"
	"tarry/pay"
	"tarry/queue"
)

// phases is what is asked of each phase.
func phases() [api.PCancel + 1]func(o api.Order) bool {
	return [...]func(o api.Order) bool{
		api.PWait: func(o api.Order) bool {
			return o.Done < o.Need && sendsNothing(o) && !isClosed(o)
		},
		api.PSend: func(o api.Order) bool {
			return loadMayBe(o) && !isClosed(o)
		},
		api.PDone: func(o api.Order) bool {
			return o.Done == o.Need && sendsNothing(o) && isClosed(o)
		},
		api.PPart: func(o api.Order) bool {
			return 0 < o.Done && o.Done < o.Need && sendsNothing(o) && isClosed(o)
		},
		api.PCancel: func(o api.Order) bool {
			return o.Done == 0 && sendsNothing(o) && isClosed(o)
		},
	}
}

func phaseMayBe(o api.Order) bool {
	return api.PWait <= o.Phase && o.Phase <= api.PCancel && phases()[o.Phase](o)
}

// waitMayBe tells whether an order's place may be. It is asked of queue, as a heap of one, so that both layers' bounds are the same.
func waitMayBe(o api.Order) bool {
	return queue.Right([]api.Wait{{Class: o.Class, Seq: o.Seq, Order: o.Id}})
}

// isName tells whether a text is a name. It is asked of goods, so that both layers' names are the same.
func isName(s string) bool {
	return goods.Right(api.Goods{Skus: []string{s}})
}

func numbersMayBe(o api.Order) bool {
	return unitsMayBe(o.Need) && unitsMayBe(o.Price) &&
		0 <= o.Done && o.Done <= o.Need &&
		0 <= o.Cutoff && o.Cutoff <= api.MaxTick
}

// moneyMayBe tells whether just the price of what an order needs is promised, and that of what came is caught.
func moneyMayBe(o api.Order) bool {
	return pay.Right(o.Pay) && o.Pay.Amount == o.Need*o.Price && o.Pay.Caught == o.Done*o.Price
}

func isClosed(o api.Order) bool {
	return o.Pay.State == api.PClosed
}

// sendsNothing tells whether nothing is on its way, of which an order's end would have to wait.
func sendsNothing(o api.Order) bool {
	return o.Load == api.Load{} && !o.Ends
}

func loadMayBe(o api.Order) bool {
	l := o.Load
	return isName(l.Sku) && unitsMayBe(l.Units) &&
		1 <= l.Counts && l.Counts <= lack(o) &&
		1 <= l.Key && l.Key <= api.MaxTick &&
		(l.Sku != o.Sku || l.Units == l.Counts)
}

func unitsMayBe(n int) bool {
	return 1 <= n && n <= api.MaxUnits
}
