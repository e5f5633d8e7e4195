package wind

import "glidepath/api"

// StructureOf returns the structure of numbers for a lag.
func StructureOf(l []int, lag int) (api.Frac, api.Errno) {
	_, e := listError(l, api.MaxWindSeries, sizeError(api.MaxWindValue))
	if e := firstError(e, lagError(lag, len(l))); e != api.OK {
		return api.Frac{}, e
	}
	exact := make([]api.Range, len(l))
	for i, x := range l {
		exact[i] = api.Range{Lo: x, Hi: x}
	}
	return structureOf(exact, lag).Lo, api.OK
}

// StructureIn returns between what the structure of numbers in ranges lies for a lag.
func StructureIn(l []api.Range, lag int) (api.Span, api.Errno) {
	_, e := listError(l, api.MaxWindSeries, func(r api.Range) api.Errno { return endsError(r, api.MaxWindValue) })
	if e := firstError(e, lagError(lag, len(l))); e != api.OK {
		return api.Span{}, e
	}
	return structureOf(l, lag), api.OK
}

func lagError(lag, count int) api.Errno {
	return rangeError(lag, 1, count-1)
}

func structureOf(l []api.Range, lag int) api.Span {
	var sum api.Range
	for i, to := range l[lag:] {
		squares := squared(change(l[i], to))
		sum.Lo += squares.Lo
		sum.Hi += squares.Hi
	}
	count := len(l) - lag
	return api.Span{Lo: lowest(sum.Lo, count), Hi: lowest(sum.Hi, count)}
}

// squared returns the range of the squares of the numbers of a range.
func squared(r api.Range) api.Range {
	a, b := r.Lo*r.Lo, r.Hi*r.Hi
	if hasZero(r) {
		return api.Range{Lo: 0, Hi: max(a, b)}
	}
	return api.Range{Lo: min(a, b), Hi: max(a, b)}
}
