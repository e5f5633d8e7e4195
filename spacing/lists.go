package spacing

import (
	"iter"
	"slices"
)

// grownBy yields all lists that grow from the empty one, item by item, by those that next gives:
// each one before the longer ones that begin with it, so that they come in lexicographic order if
// next gives ascending items. Each is new memory.
func grownBy[T any](next func(begun []T) []T) iter.Seq[[]T] {
	return func(yield func([]T) bool) {
		var grow func(begun []T) bool
		grow = func(begun []T) bool {
			if !yield(begun) {
				return false
			}
			for _, x := range next(begun) {
				if !grow(append(slices.Clone(begun), x)) {
					return false
				}
			}
			return true
		}
		grow(nil)
	}
}

// ordersOf yields all orders of all of some arrivals, which ascend, in lexicographic order.
func ordersOf(arrivals []int) iter.Seq[[]int] {
	parts := grownBy(func(begun []int) []int {
		var next []int
		for _, x := range arrivals {
			if !slices.Contains(begun, x) {
				next = append(next, x)
			}
		}
		return next
	})
	return func(yield func([]int) bool) {
		for order := range parts {
			if len(order) == len(arrivals) && !yield(order) {
				return
			}
		}
	}
}

// setsOf yields all sets of so many arrivals, in lexicographic order.
func setsOf(count int) iter.Seq[[]int] {
	return grownBy(func(begun []int) []int {
		var next []int
		for x := range count {
			if len(begun) == 0 || x > begun[len(begun)-1] {
				next = append(next, x)
			}
		}
		return next
	})
}

// pairingsOf yields all lists of pairs of so many arrivals, none of them in two pairs, in
// lexicographic order.
func pairingsOf(count int) iter.Seq[[][2]int] {
	all := pairsOf(count)
	return grownBy(func(begun [][2]int) [][2]int {
		var next [][2]int
		for _, pair := range all {
			isAfter := len(begun) == 0 || pair[0] > begun[len(begun)-1][0]
			if isAfter && !isTaken(begun, pair) {
				next = append(next, pair)
			}
		}
		return next
	})
}

// pairsOf returns all pairs of so many arrivals, in lexicographic order.
func pairsOf(count int) [][2]int {
	var l [][2]int
	for first := range count {
		for second := first + 1; second < count; second++ {
			l = append(l, [2]int{first, second})
		}
	}
	return l
}

// isTaken says whether an arrival of a pair is in an earlier pair.
func isTaken(before [][2]int, pair [2]int) bool {
	return slices.ContainsFunc(before, func(other [2]int) bool {
		return slices.Contains(other[:], pair[0]) || slices.Contains(other[:], pair[1])
	})
}
