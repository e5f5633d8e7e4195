package target

import "glidepath/api"

// lowest expects a denominator above 0.
func lowest(num, den int) api.Frac {
	d := divisorOf(num, den)
	return api.Frac{Num: num / d, Den: den / d}
}

// divisorOf returns the greatest common divisor of numbers: 0 if all of them are 0.
func divisorOf(numbers ...int) int {
	divisor := 0
	for _, x := range numbers {
		for x != 0 {
			divisor, x = x, divisor%x
		}
	}
	return max(divisor, -divisor)
}

// roundedDown expects a denominator above 0.
func roundedDown(num, den int) int {
	down := num / den
	if down*den > num {
		down--
	}
	return down
}

// roundedUp expects a denominator above 0.
func roundedUp(num, den int) int {
	return -roundedDown(-num, den)
}
