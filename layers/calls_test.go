package layers_test

import (
	"testing"

	"tarry/api"
	"tarry/ask"
	"tarry/check"
	"tarry/disk"
	"tarry/frame"
	"tarry/goods"
	"tarry/grant"
	"tarry/journal"
	"tarry/net"
	"tarry/order"
	"tarry/outbox"
	"tarry/pack"
	"tarry/pay"
	"tarry/queue"
	"tarry/saga"
	"tarry/script"
	"tarry/shop"
	"tarry/state"
	"tarry/stock"
	"tarry/store"
	"tarry/timer"
	"tarry/waits"
)

// TestCalls is held by the compiler: each call that the chapters list is there, with just that signature.
func TestCalls(t *testing.T) {
	_ = []any{
		(func(a, b int) (int, api.Errno))(pack.Add),
		(func(a, b int) (int, api.Errno))(pack.Times),
		(func(n int) (string, api.Errno))(pack.Number),
		(func(texts ...string) (string, api.Errno))(pack.Row),
		(func(s string) (int, string, api.Errno))(pack.ReadNumber),
		(func(s string) ([]string, api.Errno))(pack.ReadRow),
		(func(s string) uint32)(check.Of),
		(func(c uint32, s string) uint32)(check.On),
		(func(c uint32) string)(check.Bytes),
		(func() [256]uint32)(check.Table),
		(func(sectors int) (api.Disk, api.Errno))(disk.New),
		(func(d api.Disk) bool)(disk.Right),
		(func(d api.Disk, at int, data string) (api.Disk, api.Errno))(disk.Put),
		(func(d api.Disk) (api.Disk, api.Errno))(disk.Flush),
		(func(d api.Disk, at int) (string, api.Errno))(disk.Get),
		(func(d api.Disk, kept uint64, torn int) (api.Disk, api.Errno))(disk.Crash),
		(func(data string) (string, api.Errno))(frame.Frame),
		(func(s string) ([]string, int))(frame.Scan),
		(func(s string) ([]string, api.Errno))(frame.All),
		(func(sectors int) (api.Journal, api.Errno))(journal.Format),
		(func(d api.Disk) (api.Journal, api.Errno))(journal.Open),
		(func(j api.Journal) bool)(journal.Right),
		(func(j api.Journal, data string) (api.Journal, api.Errno))(journal.Append),
		(func(j api.Journal) (api.Journal, api.Errno))(journal.Commit),
		(func(j api.Journal, data string) (api.Journal, api.Errno))(journal.Compact),
		(func(j api.Journal, whole string, late bool, kept uint64, torn int) (api.Disk, api.Errno))(journal.Crash),
		(func(a, b api.Wait) bool)(queue.Less),
		(func(l []api.Wait) bool)(queue.Right),
		(func(l []api.Wait) ([]api.Wait, api.Errno))(queue.Make),
		(func(l []api.Wait, w api.Wait) ([]api.Wait, api.Errno))(queue.Push),
		(func(l []api.Wait) ([]api.Wait, api.Wait, api.Errno))(queue.Pop),
		(func(l []api.Wait) ([]api.Wait, api.Errno))(queue.Sorted),
		(func(g api.Goods) bool)(goods.Right),
		(func(g api.Goods, sku string) (api.Goods, api.Errno))(goods.Know),
		(func(g api.Goods, s api.Sub) (api.Goods, api.Errno))(goods.Rule),
		(func(g api.Goods, sku string) ([]api.Sub, api.Errno))(goods.For),
		(func(s api.Sub, n int) (int, api.Errno))(goods.Units),
		(func(l []api.Row) bool)(stock.Right),
		(func(l []api.Row, sku string) (api.Row, api.Errno))(stock.Get),
		(func(l []api.Row, sku string, n int) ([]api.Row, api.Errno))(stock.Receive),
		(func(l []api.Row, sku string, n int) ([]api.Row, api.Errno))(stock.Hold),
		(func(l []api.Row, sku string, n int) ([]api.Row, api.Errno))(stock.Release),
		(func(l []api.Row, sku string, n int) ([]api.Row, api.Errno))(stock.Ship),
		(func(l []api.Row, sku string, n int) ([]api.Row, api.Errno))(stock.Lose),
		(func(l []api.Line) bool)(waits.Right),
		(func(l []api.Line) ([]api.Line, api.Errno))(waits.Make),
		(func(l []api.Line, x api.Line) ([]api.Line, api.Errno))(waits.Put),
		(func(l []api.Line, order int) ([]api.Line, api.Errno))(waits.Drop),
		(func(l []api.Line, order, class int) ([]api.Line, api.Errno))(waits.Move),
		(func(l []api.Line, sku string) ([]api.Wait, api.Errno))(waits.Of),
		(func(l []api.Line, order int) (api.Line, api.Errno))(waits.Find),
		(func(l []api.Timer) bool)(timer.Right),
		(func(l []api.Timer, x api.Timer) ([]api.Timer, api.Errno))(timer.Set),
		(func(l []api.Timer, kind, order int) ([]api.Timer, api.Errno))(timer.Clear),
		(func(l []api.Timer, now int) ([]api.Timer, []api.Timer, api.Errno))(timer.Due),
		(func(l []api.Timer) (int, api.Errno))(timer.Next),
		(func(units, price, until int) (api.Pay, api.Errno))(pay.New),
		(func(p api.Pay) bool)(pay.Right),
		(func(p api.Pay, now int) bool)(pay.Good),
		(func(p api.Pay, now int) (api.Pay, bool, api.Errno))(pay.Lapse),
		(func(p api.Pay, until int) (api.Pay, api.Errno))(pay.Renew),
		(func(p api.Pay, n int) (api.Pay, api.Errno))(pay.Catch),
		(func(p api.Pay) (api.Pay, api.Errno))(pay.Close),
		(func(a api.Ask) bool)(ask.Right),
		(func(a api.Ask, until int) (api.Ask, api.Errno))(ask.Begin),
		(func(a api.Ask, yes bool, now int) (api.Ask, api.Errno))(ask.Answer),
		(func(a api.Ask, now int) (api.Ask, bool, api.Errno))(ask.Lapse),
		(func(a api.Ask, now int) bool)(ask.May),
		(func(o api.Order, until int) (api.Order, api.Errno))(order.New),
		(func(o api.Order) bool)(order.Right),
		(func(o api.Order) int)(order.Lack),
		(func(o api.Order, free, now int) int)(order.Wants),
		(func(o api.Order, l api.Load) (api.Order, api.Errno))(order.Send),
		(func(o api.Order) (api.Order, int, api.Errno))(order.Came),
		(func(o api.Order) (api.Order, api.Errno))(order.End),
		(func(o api.Order) bool)(order.Open),
		(func(b api.Outbox) bool)(outbox.Right),
		(func(b api.Outbox, kind, order, now int) (api.Outbox, int, api.Errno))(outbox.Put),
		(func(b api.Outbox, key int) (api.Outbox, api.Out, api.Errno))(outbox.Done),
		(func(b api.Outbox, kind, order int) (api.Out, api.Errno))(outbox.Find),
		(func(b api.Outbox, now int) (api.Outbox, []api.Out, api.Errno))(outbox.Tell),
		(func(n api.Net) bool)(net.Right),
		(func(n api.Net, p api.Parcel) (api.Net, int, api.Errno))(net.Post),
		(func(n api.Net, place int) (api.Net, api.Parcel, api.Errno))(net.Take),
		(func(n api.Net, place int) (api.Net, api.Errno))(net.Twice),
		(func(n api.Net, place int) (api.Net, api.Errno))(net.Last),
		(func(s api.State) bool)(state.Right),
		(func(l []api.Order) ([]api.Line, api.Errno))(state.Waits),
		(func(l []api.Order) ([]api.Timer, api.Errno))(state.Timers),
		(func(o api.Order) []int)(state.Told),
		(func(o api.Order) bool)(state.Live),
		(func(a, b api.State) bool)(state.Like),
		(func(s api.State) (string, api.Errno))(state.Text),
		(func(s string) (api.State, api.Errno))(state.Read),
		(func(s api.State, sku string) int)(grant.Free),
		(func(s api.State, id int) int)(grant.Own),
		(func(s api.State, id int) (api.Grant, bool))(grant.Other),
		(func(s api.State) (api.State, []api.Grant, api.Errno))(grant.Pass),
		(func(s api.State, long int) (api.State, []int, api.Errno))(grant.Ask),
		(func(s api.State, o api.Order, until int) (api.State, api.Errno))(saga.Place),
		(func(s api.State, id int) (api.State, api.Errno))(saga.Cancel),
		(func(s api.State, id, class int) (api.State, api.Errno))(saga.Move),
		(func(s api.State, id int) (api.State, api.Errno))(saga.Forget),
		(func(s api.State, key int) (api.State, int, api.Errno))(saga.Came),
		(func(s api.State, key, until int) (api.State, api.Errno))(saga.Renewed),
		(func(s api.State, key int, yes bool) (api.State, api.Errno))(saga.Answered),
		(func(s api.State, ticks int) (api.State, int, api.Errno))(saga.Time),
		(func(c api.Cmd) bool)(shop.Right),
		(func(c api.Cmd) (string, api.Errno))(shop.Text),
		(func(s string) (api.Cmd, api.Errno))(shop.Read),
		(func(s api.State, c api.Cmd) (api.State, api.Reply, api.Errno))(shop.Step),
		(func(records []string) (api.State, api.Errno))(store.Replay),
		(func(sectors int) (api.Store, api.Errno))(store.New),
		(func(d api.Disk) (api.Store, api.Errno))(store.Open),
		(func(t api.Store) bool)(store.Right),
		(func(t api.Store, c api.Cmd) (api.Store, api.Reply, api.Errno))(store.Do),
		(func(t api.Store) (api.Store, api.Errno))(store.Commit),
		(func(t api.Store) (api.Store, api.Errno))(store.Compact),
		(func(t api.Store, compact, late bool, kept uint64, torn int) (api.Disk, api.Errno))(store.Crash),
		(func(sectors int) (api.World, api.Errno))(script.Begin),
		(func(w api.World, a api.Act) (api.World, api.Errno))(script.Step),
		(func(l []api.Act) bool)(script.Right),
		(func(l []api.Act) (string, api.Errno))(script.Print),
		(func(s string) ([]api.Act, api.Errno, int))(script.Parse),
		(func(sectors int, l []api.Act) (api.World, []api.Errno, api.Errno))(script.Run),
	}
}
