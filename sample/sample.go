// Package sample makes what the tests of all layers are tried on.
package sample

import "slices"

// Lists answers all lists of at most n of these items, shorter ones first.
func Lists[T any](n int, items ...T) [][]T {
	all := [][]T{nil}
	longest := all
	for range n {
		var longer [][]T
		for _, l := range longest {
			for _, item := range items {
				longer = append(longer, append(slices.Clone(l), item))
			}
		}
		all = append(all, longer...)
		longest = longer
	}
	return all
}

// Guard answers a copy of l with spare room behind it, and a call that tells
// whether the copy and its spare room still are what they were.
func Guard[T comparable](l []T, spare T) ([]T, func() bool) {
	room := append(slices.Clone(l), spare, spare, spare)
	was := slices.Clone(room)
	return room[:len(l)], func() bool { return slices.Equal(room, was) }
}
