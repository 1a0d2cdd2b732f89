package goods

import "slices"

// put is a row with one more: it comes behind those of which is told that they stand below it. The row is new, for nobody's list is changed.
func put[T any](l []T, x T, below func(other T) bool) []T {
	at := 0
	for at < len(l) && below(l[at]) {
		at++
	}
	return slices.Concat(l[:at], []T{x}, l[at:])
}

// rises tells whether each stands above the one ahead of it.
func rises[T any](l []T, below func(a, b T) bool) bool {
	for i := 1; i < len(l); i++ {
		if !below(l[i-1], l[i]) {
			return false
		}
	}
	return true
}

// all tells whether each is such.
func all[T any](l []T, such func(x T) bool) bool {
	return !slices.ContainsFunc(l, func(x T) bool { return !such(x) })
}
