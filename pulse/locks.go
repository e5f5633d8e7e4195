package pulse

import (
	"slices"

	"glidepath/api"
)

// LockRows returns the rows of a polynomial.
func LockRows(l []int) ([][]int, api.Errno) {
	if e := polynomialError(l); e != api.OK {
		return nil, e
	}
	return rowsOf(l), api.OK
}

// IsLocked tells whether the loop with this polynomial is locked.
func IsLocked(l []int) (bool, api.Errno) {
	if e := polynomialError(l); e != api.OK {
		return false, e
	}
	return isLocked(l), api.OK
}

// MarginOf returns up to which gain a loop stays locked, at most up to a given one.
func MarginOf(a, b []int, most int) (int, api.Errno) {
	e := firstError(
		polynomialError(a),
		polynomialError(b),
		errorIf(len(a) != len(b), api.ErrClash),
		rangeError(most, 0, api.MaxPulseCoefficient),
	)
	if e != api.OK {
		return 0, e
	}
	if !isLocked(a) {
		return 0, api.ErrState
	}
	gain := 0
	for gain < most && isLockedWith(a, b, gain+1) {
		gain++
	}
	return gain, api.OK
}

func polynomialError(l []int) api.Errno {
	_, e := listError(l, api.MaxPulseDegree+1, numberError(-api.MaxPulseCoefficient, api.MaxPulseCoefficient))
	return e
}

func isLocked(l []int) bool {
	rows := rowsOf(l)
	last := rows[len(rows)-1]
	return len(last) == 1 && last[0] != 0
}

func isLockedWith(a, b []int, gain int) bool {
	sum := make([]int, len(a))
	for k := range sum {
		sum[k] = a[k] + gain*b[k]
	}
	return polynomialError(sum) == api.OK && isLocked(sum)
}

func rowsOf(l []int) [][]int {
	row := slices.Clone(l)
	rows := [][]int{row}
	for hasNextRow(row) {
		row = nextRow(row)
		rows = append(rows, row)
	}
	return rows
}

func hasNextRow(row []int) bool {
	first, last := row[0], row[len(row)-1]
	return len(row) > 1 && max(last, -last) > max(first, -first)
}

func nextRow(row []int) []int {
	n := len(row) - 1
	next := make([]int, n)
	for k := range next {
		next[k] = row[n]*row[k+1] - row[0]*row[n-1-k]
	}
	return next
}
