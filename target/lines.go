package target

import (
	"slices"

	"glidepath/api"
)

// sums are those of distances, readings, the squares of distances, and products of both.
type sums struct{ distances, readings, squares, products int }

// LineOf returns the line with the least sum of squares.
func LineOf(l []api.TargetReading) (api.TargetLine, api.Errno) {
	if e := distancesError(l); e != api.OK {
		return api.TargetLine{}, e
	}
	return lineOf(l), api.OK
}

// CheckLine accepts the line of readings alone. If it is not accepted it returns which of both
// sums is not 0.
func CheckLine(l []api.TargetReading, x api.TargetLine) (int, api.Errno) {
	if e := firstError(distancesError(l), lineError(x)); e != api.OK {
		return 0, e
	}
	sum, products := 0, 0
	for _, r := range l {
		sum += difference(r, x)
		products += difference(r, x) * r.Distance
	}
	return itemError([]int{sum, products}, func(sum int) api.Errno {
		return errorIf(sum != 0, api.ErrProof)
	})
}

// ResidualOf returns the least sum of squares.
func ResidualOf(l []api.TargetReading) (api.Frac, api.Errno) {
	if e := distancesError(l); e != api.OK {
		return api.Frac{}, e
	}
	residual := residualOf(l, lineOf(l))
	// The denominator is never too large: it divides that of the line.
	if residual.Num > api.MaxPart {
		return api.Frac{}, api.ErrLarge
	}
	return residual, api.OK
}

// LineAt returns the line at a distance.
func LineAt(x api.TargetLine, distance int) (api.Range, api.Errno) {
	if e := firstError(lineError(x), rangeError(distance, 0, api.MaxTargetDistance)); e != api.OK {
		return api.Range{}, e
	}
	value := x.Scale*distance + x.Offset
	return api.Range{Lo: roundedDown(value, x.Den), Hi: roundedUp(value, x.Den)}, api.OK
}

// CorrectedIn returns the range of all distances at which the line lies in a range of readings.
func CorrectedIn(x api.TargetLine, reading api.Range) (api.Range, api.Errno) {
	if e := firstError(
		lineError(x),
		errorIf(x.Scale <= 0, api.ErrZero),
		rangeError(reading.Lo, 0, api.MaxTargetDistance),
		rangeError(reading.Hi, 0, api.MaxTargetDistance),
		errorIf(reading.Lo > reading.Hi, api.ErrOrder),
	); e != api.OK {
		return api.Range{}, e
	}
	return api.Range{
		Lo: roundedDown(x.Den*reading.Lo-x.Offset, x.Scale),
		Hi: roundedUp(x.Den*reading.Hi-x.Offset, x.Scale),
	}, api.OK
}

// distancesError is the error of readings that have no line.
func distancesError(l []api.TargetReading) api.Errno {
	isOther := func(r api.TargetReading) bool { return r.Distance != l[0].Distance }
	return firstError(
		readingsError(l),
		errorIf(!slices.ContainsFunc(l, isOther), api.ErrZero),
	)
}

func lineError(x api.TargetLine) api.Errno {
	return firstError(
		rangeError(x.Den, 1, api.MaxPart),
		sizeError(api.MaxPart, x.Scale),
		sizeError(api.MaxTargetPart, x.Offset),
		errorIf(divisorOf(x.Den, x.Scale, x.Offset) != 1, api.ErrForm),
	)
}

func sumsOf(l []api.TargetReading) sums {
	var s sums
	for _, r := range l {
		s.distances += r.Distance
		s.readings += r.Reading
		s.squares += r.Distance * r.Distance
		s.products += r.Distance * r.Reading
	}
	return s
}

// lineOf solves the equations of both sums that must be 0; their determinant is above 0 if the
// distances are not equal.
func lineOf(l []api.TargetReading) api.TargetLine {
	s := sumsOf(l)
	scale := len(l)*s.products - s.distances*s.readings
	offset := s.squares*s.readings - s.distances*s.products
	den := len(l)*s.squares - s.distances*s.distances
	divisor := divisorOf(scale, offset, den)
	return api.TargetLine{Scale: scale / divisor, Offset: offset / divisor, Den: den / divisor}
}

// difference is that of a reading and a line, times the denominator of the line.
func difference(r api.TargetReading, x api.TargetLine) int {
	return x.Den*r.Reading - x.Scale*r.Distance - x.Offset
}

// residualOf adds up products of differences and readings, because squares of differences may
// overflow: the products of the differences and the best line add up to 0.
func residualOf(l []api.TargetReading, best api.TargetLine) api.Frac {
	sum := 0
	for _, r := range l {
		sum += difference(r, best) * r.Reading
	}
	return lowest(sum, best.Den)
}
