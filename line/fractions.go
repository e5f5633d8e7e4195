package line

import "glidepath/api"

func fractionError(x api.Frac) api.Errno {
	return firstError(
		errorIf(!isLowest(x), api.ErrForm),
		errorIf(isLarge(x), api.ErrRange),
	)
}

func isLowest(x api.Frac) bool {
	return x.Den > 0 && divisor(x.Num, x.Den) == 1
}

// isLarge compares with both ends, because the smallest whole number has no size.
func isLarge(x api.Frac) bool {
	return x.Num < -api.MaxPart || x.Num > api.MaxPart || x.Den > api.MaxPart
}

// within returns a fraction in lowest terms, unless a part of it is too large.
func within(num, den int) (api.Frac, api.Errno) {
	x := lowest(num, den)
	if isLarge(x) {
		return api.Frac{}, api.ErrLarge
	}
	return x, api.OK
}

func whole(x int) api.Frac {
	return api.Frac{Num: x, Den: 1}
}

// lowest expects a denominator above 0.
func lowest(num, den int) api.Frac {
	d := divisor(num, den)
	return api.Frac{Num: num / d, Den: den / d}
}

func divisor(a, b int) int {
	for b != 0 {
		a, b = b, a%b
	}
	return max(a, -a)
}

// minus is for estimates, truths and errors, whose products are far from overflowing.
func minus(a, b api.Frac) api.Frac {
	return lowest(a.Num*b.Den-b.Num*a.Den, a.Den*b.Den)
}

// isLess is for the same numbers as minus.
func isLess(a, b api.Frac) bool {
	return a.Num*b.Den < b.Num*a.Den
}
