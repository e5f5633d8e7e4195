package scan

import (
	"iter"
	"slices"

	"glidepath/api"
)

// OrderOf returns the best order of directions, and its ticks.
func OrderOf(h api.ScanHead, l []api.ScanDirection) ([]int, int, api.Errno) {
	if e := firstError(headError(h), directionsError(l)); e != api.OK {
		return nil, 0, e
	}
	moves := movesOf(h, l)
	var best []int
	ticks := 0
	for order := range ordersOf(len(l)) {
		all := along(moves, order)
		// Of orders with equal ticks the first one stays: they come in lexicographic order.
		if all.isDark && (best == nil || all.ticks < ticks) {
			best, ticks = order, all.ticks
		}
	}
	if best == nil {
		return nil, 0, api.ErrNone
	}
	return best, ticks, api.OK
}

// CheckOrder returns the ticks of an order that is dark.
func CheckOrder(h api.ScanHead, l []api.ScanDirection, order []int) (int, api.Errno) {
	if e := firstError(headError(h), directionsError(l)); e != api.OK {
		return 0, e
	}
	if e := orderError(order, len(l)); e != api.OK {
		return 0, e
	}
	all := along(movesOf(h, l), order)
	if !all.isDark {
		return 0, api.ErrRefused
	}
	return all.ticks, api.OK
}

// BoundOf returns ticks than which no order takes less.
func BoundOf(h api.ScanHead, l []api.ScanDirection) (int, api.Errno) {
	if e := firstError(headError(h), directionsError(l)); e != api.OK {
		return 0, e
	}
	moves := movesOf(h, l)
	bound := 0
	for to := range l {
		least := moves[len(l)][to].ticks
		for from := range l {
			if from != to {
				least = min(least, moves[from][to].ticks)
			}
		}
		bound += least
	}
	return bound, api.OK
}

func directionsError(l []api.ScanDirection) api.Errno {
	_, e := listError(l, api.MaxScanOrder, directionError)
	return e
}

func orderError(order []int, count int) api.Errno {
	if len(order) != count {
		return api.ErrShape
	}
	for i, index := range order {
		e := firstError(
			errorIf(index < 0 || index >= count, api.ErrMissing),
			errorIf(slices.Contains(order[:i], index), api.ErrDouble),
		)
		if e != api.OK {
			return e
		}
	}
	return api.OK
}

// move is a move from a direction to another one, or several of them, one after the other.
type move struct {
	ticks  int
	isDark bool
}

// movesOf returns a row for each direction from which a move begins; the last row is that of Home.
func movesOf(h api.ScanHead, l []api.ScanDirection) [][]move {
	var moves [][]move
	for _, from := range slices.Concat(l, []api.ScanDirection{h.Home}) {
		row := make([]move, len(l))
		for i, to := range l {
			row[i] = move{ticks: moveTicks(h, from, to), isDark: isDark(h, from, to)}
		}
		moves = append(moves, row)
	}
	return moves
}

// along returns all the moves of an order, from Home on.
func along(moves [][]move, order []int) move {
	all := move{isDark: true}
	from := len(order)
	for _, to := range order {
		next := moves[from][to]
		all.ticks += next.ticks
		all.isDark = all.isDark && next.isDark
		from = to
	}
	return all
}

// ordersOf yields all orders of a number of indexes, lexicographically ascending, each in memory of its own.
func ordersOf(count int) iter.Seq[[]int] {
	return func(yield func([]int) bool) {
		var extend func(begun []int) bool
		extend = func(begun []int) bool {
			if len(begun) == count {
				return yield(slices.Clone(begun))
			}
			for i := range count {
				if !slices.Contains(begun, i) && !extend(append(begun, i)) {
					return false
				}
			}
			return true
		}
		extend(nil)
	}
}
