package wake

import (
	"iter"
	"slices"

	"glidepath/api"
)

// CheckMatrix returns the error of a matrix of costs, with the index of the row that it concerns.
func CheckMatrix(m [][]int) (int, api.Errno) {
	if len(m) == 0 {
		return 0, api.ErrShape
	}
	return listError(m, api.MaxWakeRows, func(row []int) api.Errno {
		_, outside := itemError(row, costError)
		return firstError(errorIf(len(row) != len(m), api.ErrShape), outside)
	})
}

// CheapestOf returns the cheapest assignment, and its cost.
func CheapestOf(m [][]int) ([]int, int, api.Errno) {
	if e := matrixError(m); e != api.OK {
		return nil, 0, e
	}
	assigned := cheapestOf(m)
	return assigned, costOf(m, assigned), api.OK
}

// PotentialsOf returns the cheapest assignment with potentials that prove it.
func PotentialsOf(m [][]int) (api.WakeProof, api.Errno) {
	if e := matrixError(m); e != api.OK {
		return api.WakeProof{}, e
	}
	return proven(m, cheapestOf(m)), api.OK
}

// CheckAssignment returns why potentials do not prove an assignment, with the index of the row that it concerns.
func CheckAssignment(m [][]int, p api.WakeProof) (int, api.Errno) {
	hasShape := len(p.Assigned) == len(m) && len(p.Rows) == len(m) && len(p.Columns) == len(m)
	if e := firstError(matrixError(m), errorIf(!hasShape, api.ErrShape)); e != api.OK {
		return 0, e
	}
	checks := []func(row int) api.Errno{
		func(row int) api.Errno { return columnError(p.Assigned, row) },
		func(row int) api.Errno { return potentialError(p, row) },
		func(row int) api.Errno { return errorIf(isExceeded(m[row], p, row), api.ErrProof) },
	}
	for _, errorOf := range checks {
		for row := range m {
			if e := errorOf(row); e != api.OK {
				return row, e
			}
		}
	}
	return 0, errorIf(sumOf(p.Rows)+sumOf(p.Columns) != costOf(m, p.Assigned), api.ErrClash)
}

// CertainIn returns the rows that have the same column in all cheapest assignments.
func CertainIn(m [][]int) ([]int, api.Errno) {
	if e := matrixError(m); e != api.OK {
		return nil, e
	}
	all := allCheapest(m)
	var certain []int
	for row := range m {
		isElsewhere := func(assigned []int) bool { return assigned[row] != all[0][row] }
		if !slices.ContainsFunc(all, isElsewhere) {
			certain = append(certain, row)
		}
	}
	return certain, api.OK
}

func matrixError(m [][]int) api.Errno {
	_, e := CheckMatrix(m)
	return e
}

// costError is also for a miss.
func costError(cost int) api.Errno {
	return rangeError(cost, 0, api.MaxWakeCost)
}

func columnError(assigned []int, row int) api.Errno {
	column := assigned[row]
	return firstError(
		errorIf(column < 0 || column >= len(assigned), api.ErrMissing),
		errorIf(slices.Contains(assigned[:row], column), api.ErrDouble),
	)
}

func potentialError(p api.WakeProof, row int) api.Errno {
	most := api.MaxWakeRows * api.MaxWakeCost
	return firstError(rangeError(p.Rows[row], -most, most), rangeError(p.Columns[row], -most, most))
}

// isExceeded says whether an entry of a row is less than the sum of both potentials.
func isExceeded(entries []int, p api.WakeProof, row int) bool {
	for column, entry := range entries {
		if entry < p.Rows[row]+p.Columns[column] {
			return true
		}
	}
	return false
}

// assignmentsOf yields all assignments of a matrix with so many rows, in lexicographic order.
// Each is new memory.
func assignmentsOf(rows int) iter.Seq[[]int] {
	return func(yield func([]int) bool) {
		var extend func(begun []int) bool
		extend = func(begun []int) bool {
			if len(begun) == rows {
				return yield(begun)
			}
			for column := range rows {
				if slices.Contains(begun, column) {
					continue
				}
				if !extend(append(slices.Clone(begun), column)) {
					return false
				}
			}
			return true
		}
		extend(nil)
	}
}

// allCheapest returns all assignments with the minimum cost, in lexicographic order.
func allCheapest(m [][]int) [][]int {
	var all [][]int
	least := 0
	for assigned := range assignmentsOf(len(m)) {
		cost := costOf(m, assigned)
		if len(all) == 0 || cost < least {
			all, least = nil, cost
		}
		if cost == least {
			all = append(all, assigned)
		}
	}
	return all
}

// cheapestOf also takes the matrix without rows.
func cheapestOf(m [][]int) []int {
	all := allCheapest(m)
	return all[0]
}

func costOf(m [][]int, assigned []int) int {
	cost := 0
	for row, column := range assigned {
		cost += m[row][column]
	}
	return cost
}

// proven expects a cheapest assignment. A row gets what its own column leaves of their entry, and
// columns are lowered until no entry is exceeded. They are lowered in fewer rounds than there are
// columns, because no exchange in a ring makes a cheapest assignment cheaper; the round after
// these sets the rows.
func proven(m [][]int, assigned []int) api.WakeProof {
	rows, columns := make([]int, len(m)), make([]int, len(m))
	for range m {
		for row, entries := range m {
			own := assigned[row]
			rows[row] = entries[own] - columns[own]
			for column, entry := range entries {
				columns[column] = min(columns[column], entry-rows[row])
			}
		}
	}
	return api.WakeProof{Assigned: assigned, Rows: rows, Columns: columns}
}

func sumOf(l []int) int {
	sum := 0
	for _, x := range l {
		sum += x
	}
	return sum
}
