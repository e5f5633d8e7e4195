package cloud

import "glidepath/api"

// partError is for parts of a whole: they are from 0 to 1.
func partError(x api.Frac) api.Errno {
	return firstError(
		errorIf(x.Den <= 0 || divisorOf(x.Num, x.Den) != 1, api.ErrForm),
		rangeError(x.Num, 0, x.Den),
		errorIf(x.Den > api.MaxPart, api.ErrRange),
	)
}

func divisorOf(a, b int) int {
	for b != 0 {
		a, b = b, a%b
	}
	return max(a, -a)
}

// lowest expects a denominator above 0.
func lowest(num, den int) api.Frac {
	d := divisorOf(num, den)
	return api.Frac{Num: num / d, Den: den / d}
}

// product returns the product of fractions that are not below 0, unless a part of it is too
// large. It reduces before it multiplies, because a product that is not reduced may overflow.
func product(a, b api.Frac) (api.Frac, api.Errno) {
	x, y := lowest(a.Num, b.Den), lowest(b.Num, a.Den)
	if isLarge(x.Num, y.Num) || isLarge(x.Den, y.Den) {
		return api.Frac{}, api.ErrLarge
	}
	return api.Frac{Num: x.Num * y.Num, Den: x.Den * y.Den}, api.OK
}

// isLarge says whether the product of two numbers that are not below 0 is too large for a part.
func isLarge(a, b int) bool {
	return a > 0 && b > api.MaxPart/a
}
