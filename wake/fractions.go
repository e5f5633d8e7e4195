package wake

import "glidepath/api"

// lowest expects a denominator above 0.
func lowest(x api.Frac) api.Frac {
	divisor, rest := x.Den, x.Num
	for rest != 0 {
		divisor, rest = rest, divisor%rest
	}
	divisor = size(divisor)
	return api.Frac{Num: x.Num / divisor, Den: x.Den / divisor}
}

// isLarge is for radial products, whose denominators are never large.
func isLarge(x api.Frac) bool {
	return size(x.Num) > api.MaxPart
}

// roundedDown expects a denominator above 0.
func roundedDown(num, den int) int {
	down := num / den
	if down*den > num {
		down--
	}
	return down
}

// size is for numbers that have been checked: the smallest whole number has none.
func size(x int) int { return max(x, -x) }
