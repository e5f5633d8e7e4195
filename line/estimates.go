package line

import (
	"slices"

	"glidepath/api"
)

// CentroidIn returns the centroid of the lines near the peak.
func CentroidIn(l []int, half int) (api.Frac, api.Errno) {
	if e := firstError(spectrumError(l), rangeError(half, 0, api.MaxLineLines)); e != api.OK {
		return api.Frac{}, e
	}
	s := spectrum(l)
	if s.isDark() {
		return api.Frac{}, api.ErrZero
	}
	power, moment := sums(s.near(s.peak(), half))
	return lowest(moment, power), api.OK
}

// Estimated returns the position of the line by an estimator.
func Estimated(l []int, kind int) (api.Frac, api.Errno) {
	if e := firstError(spectrumError(l), kindError(kind)); e != api.OK {
		return api.Frac{}, e
	}
	return spectrum(l).estimate(kind), api.OK
}

func kindError(kind int) api.Errno {
	return errorIf(isNoKind(kind), api.ErrKind)
}

func isNoKind(kind int) bool {
	return outside(0, api.LineEstimators-1)(kind)
}

func (s spectrum) estimate(kind int) api.Frac {
	if s.isDark() {
		return whole(0)
	}
	estimators := [api.LineEstimators]func(spectrum) api.Frac{
		api.LinePeak:     spectrum.byPeak,
		api.LineCentroid: spectrum.byCentroid,
		api.LineParabola: spectrum.byParabola,
		api.LineMedian:   spectrum.byMedian,
	}
	return estimators[kind](s)
}

func (s spectrum) byPeak() api.Frac {
	return whole(s.peak())
}

func (s spectrum) byCentroid() api.Frac {
	power, moment := sums(slices.All(s))
	return lowest(moment, power)
}

// byParabola divides safely: the peak is the first maximum, so that the line before it is
// smaller and d is above 0.
func (s spectrum) byParabola() api.Frac {
	k := s.peak()
	if k == 0 || k == len(s)-1 {
		return whole(k)
	}
	d := 2*s[k] - s[k-1] - s[k+1]
	return lowest(2*d*k+s[k+1]-s[k-1], 2*d)
}

func (s spectrum) byMedian() api.Frac {
	all, _ := sums(slices.All(s))
	k, below := 0, s[0]
	for 2*below < all {
		k++
		below += s[k]
	}
	return whole(k)
}
