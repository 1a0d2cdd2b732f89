package queue

import (
	"sort"

	"tarry/api"
)

// heaped is waits as the library's heap asks for them. What is made one is a copy, for the heap moves them about.
type heaped []api.Wait

func (h heaped) Len() int { return len(h) }

func (h heaped) Less(i, k int) bool { return Less(h[i], h[k]) }

func (h heaped) Swap(i, k int) { h[i], h[k] = h[k], h[i] }

// Push takes what the heap hands on; nothing but waits is put into it.
func (h *heaped) Push(x any) { *h = append(*h, x.(api.Wait)) }

func (h *heaped) Pop() any {
	last := len(*h) - 1
	w := (*h)[last]
	*h = (*h)[:last]
	return w
}

// stand tells whether none goes ahead of the one that the heap has above it. It asks through the interface by which the heap itself asks, so that both go by one order.
func stand(h sort.Interface) bool {
	for i := 1; i < h.Len(); i++ {
		if h.Less(i, (i-1)/2) {
			return false
		}
	}
	return true
}
