package wind

import (
	"cmp"

	"glidepath/api"
)

// divisorOf returns the greatest common divisor: 0 if all numbers are 0.
func divisorOf(l ...int) int {
	d := 0
	for _, x := range l {
		for x != 0 {
			d, x = x, d%x
		}
	}
	return max(d, -d)
}

// lowest expects a denominator above 0.
func lowest(num, den int) api.Frac {
	d := divisorOf(num, den)
	return api.Frac{Num: num / d, Den: den / d}
}

// isLarge compares with both ends, because the smallest whole number has no size.
func isLarge(x api.Frac) bool {
	return x.Num < -api.MaxPart || x.Num > api.MaxPart || x.Den > api.MaxPart
}

// compareFractions is for products with vertices, whose parts are far from overflowing.
func compareFractions(a, b api.Frac) int {
	return cmp.Compare(a.Num*b.Den, b.Num*a.Den)
}

// roundedDown expects a denominator above 0.
func roundedDown(num, den int) int {
	down := num / den
	if down*den > num {
		down--
	}
	return down
}

func roundedUp(num, den int) int {
	return -roundedDown(-num, den)
}
