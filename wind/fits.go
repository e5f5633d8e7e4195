package wind

import "glidepath/api"

// FitOf returns the fit of readings.
func FitOf(l []api.WindReading) (api.WindVector, api.Errno) {
	if e := fittingError(l); e != api.OK {
		return api.WindVector{}, e
	}
	return fitOf(l), api.OK
}

// CheckFit accepts the fit of readings; otherwise with ErrProof it returns the coordinate of the
// first equation that does not hold.
func CheckFit(l []api.WindReading, v api.WindVector) (int, api.Errno) {
	if e := firstError(fittingError(l), windError(v)); e != api.OK {
		return 0, e
	}
	rows, values := fittingOf(l)
	for k, row := range rows {
		if 2*row.times(partsOf(v)) != values[k]*v.Den {
			return k, api.ErrProof
		}
	}
	return 0, api.OK
}

// ResidualOf returns the sum of squares that is left by the fit of readings.
func ResidualOf(l []api.WindReading) (api.Frac, api.Errno) {
	if e := fittingError(l); e != api.OK {
		return api.Frac{}, e
	}
	if residual := residualOf(l, fitOf(l)); !isLarge(residual) {
		return residual, api.OK
	}
	return api.Frac{}, api.ErrLarge
}

func fittingError(l []api.WindReading) api.Errno {
	if e := readingsError(l); e != api.OK {
		return e
	}
	return openError(l)
}

// fittingOf returns the equations of the fit: its products with the rows are half the values.
func fittingOf(l []api.WindReading) ([3]vector, [3]int) {
	var rows [3]vector
	var values [3]int
	for _, x := range l {
		for k, factor := range x.Direction {
			rows[k] = rows[k].plus(factor, x.Direction)
			values[k] += factor * twiceMiddle(x)
		}
	}
	return rows, values
}

// fitOf expects readings of the rank 3. The limits of readings keep its parts within those of a wind.
func fitOf(l []api.WindReading) api.WindVector {
	rows, values := fittingOf(l)
	parts, den := solved(rows, values)
	return lowestWind(parts, 2*den)
}

// residualOf is only for the fit: by its equations the sum of squares is that of the middles less
// the product of the fit and half the values. The squares of the differences themselves may overflow.
func residualOf(l []api.WindReading, fit api.WindVector) api.Frac {
	squares := 0
	for _, x := range l {
		squares += twiceMiddle(x) * twiceMiddle(x)
	}
	_, values := fittingOf(l)
	return lowest(squares*fit.Den-2*partsOf(fit).times(values), 4*fit.Den)
}

func twiceMiddle(x api.WindReading) int {
	return x.Value.Lo + x.Value.Hi
}
