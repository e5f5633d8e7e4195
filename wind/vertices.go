package wind

import (
	"iter"
	"slices"

	"glidepath/api"
)

// VerticesOf returns the vertices between which all winds of readings lie.
func VerticesOf(l []api.WindReading) ([]api.WindVector, api.Errno) {
	if e := readingsError(l); e != api.OK {
		return nil, e
	}
	return verticesOf(l)
}

// RangeIn returns the range of the products of a direction and all winds of readings.
func RangeIn(l []api.WindReading, direction [3]int) (api.Span, api.Errno) {
	if e := firstError(readingsError(l), directionError(direction)); e != api.OK {
		return api.Span{}, e
	}
	vertices, e := verticesOf(l)
	if e != api.OK {
		return api.Span{}, e
	}
	return spanOf(vertices, direction), api.OK
}

// HeadwindIn returns the range of RangeIn, rounded outwards.
func HeadwindIn(l []api.WindReading, direction [3]int) (api.Range, api.Errno) {
	span, e := RangeIn(l, direction)
	if e != api.OK {
		return api.Range{}, e
	}
	return rounded(span), api.OK
}

// BoxOf returns the range of each part of all winds of readings, rounded outwards.
func BoxOf(l []api.WindReading) (api.WindBox, api.Errno) {
	vertices, e := VerticesOf(l)
	if e != api.OK {
		return api.WindBox{}, e
	}
	along := func(axis vector) api.Range { return rounded(spanOf(vertices, axis)) }
	return api.WindBox{X: along(vector{1, 0, 0}), Y: along(vector{0, 1, 0}), Z: along(vector{0, 0, 1})}, api.OK
}

// HasWind returns whether a wind agrees with all readings.
func HasWind(l []api.WindReading, v api.WindVector) (bool, api.Errno) {
	if e := firstError(readingsError(l), windError(v)); e != api.OK {
		return false, e
	}
	return hasWind(l, v), api.OK
}

func hasWind(l []api.WindReading, v api.WindVector) bool {
	disagrees := func(x api.WindReading) bool {
		product := partsOf(v).times(x.Direction)
		return product < x.Value.Lo*v.Den || product > x.Value.Hi*v.Den
	}
	return !slices.ContainsFunc(l, disagrees)
}

// verticesOf expects readings without errors.
func verticesOf(l []api.WindReading) ([]api.WindVector, api.Errno) {
	if e := openError(l); e != api.OK {
		return nil, e
	}
	known := map[api.WindVector]bool{}
	for v := range crossingsOf(l) {
		if hasWind(l, v) {
			known[v] = true
		}
	}
	if len(known) == 0 {
		return nil, api.ErrNone
	}
	var vertices []api.WindVector
	for v := range known {
		vertices = append(vertices, v)
	}
	slices.SortFunc(vertices, compareWinds)
	return vertices, api.OK
}

// crossingsOf yields the winds for which the products with three independent directions are ends
// of the ranges of these readings.
func crossingsOf(l []api.WindReading) iter.Seq[api.WindVector] {
	return func(yield func(api.WindVector) bool) {
		for set := range setsOf(len(l), 3) {
			for choice := range 8 {
				directions, ends := endsOf(l, set, choice)
				parts, den := solved(directions, ends)
				if den != 0 && !yield(lowestWind(parts, den)) {
					return
				}
			}
		}
	}
}

// endsOf returns the directions of a set of three readings, and an end of the range of each: the
// bits of the choice say which end.
func endsOf(l []api.WindReading, set []int, choice int) ([3]vector, [3]int) {
	var directions [3]vector
	var ends [3]int
	for k, i := range set {
		directions[k] = l[i].Direction
		ends[k] = l[i].Value.Lo
		if choice&(1<<k) != 0 {
			ends[k] = l[i].Value.Hi
		}
	}
	return directions, ends
}

// setsOf yields all sets of a size of the numbers below a count, lexicographically ascending,
// each in memory of its own.
func setsOf(count, size int) iter.Seq[[]int] {
	return func(yield func([]int) bool) {
		var extend func(begun []int, from int) bool
		extend = func(begun []int, from int) bool {
			if len(begun) == size {
				return yield(slices.Clone(begun))
			}
			for i := from; i < count; i++ {
				if !extend(append(begun, i), i+1) {
					return false
				}
			}
			return true
		}
		extend(nil, 0)
	}
}

func spanOf(vertices []api.WindVector, direction vector) api.Span {
	var products []api.Frac
	for _, v := range vertices {
		products = append(products, lowest(partsOf(v).times(direction), v.Den))
	}
	return api.Span{
		Lo: slices.MinFunc(products, compareFractions),
		Hi: slices.MaxFunc(products, compareFractions),
	}
}

func rounded(s api.Span) api.Range {
	return api.Range{Lo: roundedDown(s.Lo.Num, s.Lo.Den), Hi: roundedUp(s.Hi.Num, s.Hi.Den)}
}
