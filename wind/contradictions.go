package wind

import (
	"iter"

	"glidepath/api"
)

// ContradictionOf returns the contradiction of readings.
func ContradictionOf(l []api.WindReading) (api.WindProof, api.Errno) {
	if e := readingsError(l); e != api.OK {
		return api.WindProof{}, e
	}
	for x := range dependencesOf(l) {
		if !hasZero(rangeSum(l, x)) {
			return x, api.OK
		}
	}
	return api.WindProof{}, api.ErrNone
}

// CheckContradiction returns the sum of all ranges times their factors, if it is a contradiction.
func CheckContradiction(l []api.WindReading, x api.WindProof) (api.Range, api.Errno) {
	if e := readingsError(l); e != api.OK {
		return api.Range{}, e
	}
	if e := proofError(l, x); e != api.OK {
		return api.Range{}, e
	}
	sum := rangeSum(l, x)
	e := firstError(
		errorIf(directionSum(l, x) != vector{}, api.ErrForm),
		errorIf(hasZero(sum), api.ErrProof),
	)
	if e != api.OK {
		return api.Range{}, e
	}
	return sum, api.OK
}

// proofError returns the error of indexes and factors, whatever their sums are.
func proofError(l []api.WindReading, x api.WindProof) api.Errno {
	if len(x.Readings) == 0 || len(x.Readings) != len(x.Factors) {
		return api.ErrShape
	}
	orderError := ascending()
	_, e := itemError(x.Readings, func(i int) api.Errno {
		return firstError(errorIf(i < 0 || i >= len(l), api.ErrMissing), orderError(i))
	})
	_, factorsError := itemError(x.Factors, sizeError(api.MaxPart))
	return firstError(e, factorsError)
}

// dependencesOf yields sets of readings, the smaller ones first, with the only factors for which
// the sum of their directions is 0. A set that has several is left out: if it contradicts
// itself, then some of its parts do, too.
func dependencesOf(l []api.WindReading) iter.Seq[api.WindProof] {
	return func(yield func(api.WindProof) bool) {
		for size := range len(l) + 1 {
			for set := range setsOf(len(l), size) {
				solutions := solutionsOf(coordinatesOf(l, set), size)
				if len(solutions) != 1 {
					continue
				}
				if !yield(api.WindProof{Readings: set, Factors: primitive(solutions[0], 0)}) {
					return
				}
			}
		}
	}
}

// coordinatesOf returns the equations for the factors of a set of readings.
func coordinatesOf(l []api.WindReading, set []int) [][]int {
	equations := make([][]int, 3)
	for k := range equations {
		for _, i := range set {
			equations[k] = append(equations[k], l[i].Direction[k])
		}
	}
	return equations
}

func directionSum(l []api.WindReading, x api.WindProof) vector {
	var sum vector
	for k, i := range x.Readings {
		sum = sum.plus(x.Factors[k], l[i].Direction)
	}
	return sum
}

func rangeSum(l []api.WindReading, x api.WindProof) api.Range {
	var sum api.Range
	for k, i := range x.Readings {
		a, b := x.Factors[k]*l[i].Value.Lo, x.Factors[k]*l[i].Value.Hi
		sum.Lo += min(a, b)
		sum.Hi += max(a, b)
	}
	return sum
}

func hasZero(r api.Range) bool {
	return r.Lo <= 0 && r.Hi >= 0
}
