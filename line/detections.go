package line

import (
	"slices"

	"glidepath/api"
)

// DetectionsIn returns the lines that a rule detects.
func DetectionsIn(l []int, r api.LineRule) ([]int, api.Errno) {
	e := firstError(
		spectrumError(l),
		thresholdError(r.Threshold),
		rangeError(r.Apart, 0, api.MaxLineLines),
	)
	if e != api.OK {
		return nil, e
	}
	return indexesWith(len(l), func(i int) bool { return spectrum(l).isDetected(i, r) }), api.OK
}

// QualityOf returns the power of a line, divided by the mean power of all others.
func QualityOf(l []int, at int) (api.Frac, api.Errno) {
	if e := firstError(spectrumError(l), errorIf(at < 0 || at >= len(l), api.ErrMissing)); e != api.OK {
		return api.Frac{}, e
	}
	all, _ := sums(slices.All(l))
	others := all - l[at]
	if others == 0 {
		return api.Frac{}, api.ErrZero
	}
	return lowest(l[at]*(len(l)-1), others), api.OK
}

// HardIn returns the gates that are hard targets.
func HardIn(gates [][]int, x api.LineHard) ([]int, api.Errno) {
	if e := firstError(gatesError(gates), hardError(x)); e != api.OK {
		return nil, e
	}
	return indexesWith(len(gates), func(i int) bool { return spectrum(gates[i]).isHard(x) }), api.OK
}

func gatesError(gates [][]int) api.Errno {
	if len(gates) > api.MaxLineGates {
		return api.ErrLarge
	}
	for _, l := range gates {
		if e := spectrumError(l); e != api.OK {
			return e
		}
	}
	return api.OK
}

func hardError(x api.LineHard) api.Errno {
	return firstError(
		rangeError(x.Zero, 0, api.MaxLineLines-1),
		rangeError(x.Half, 0, api.MaxLineLines),
		rangeError(x.Power, 0, api.MaxLineLines*api.MaxLinePower),
		rangeError(x.Percent, 0, 100),
	)
}

// isDetected prefers the first one of equal lines: only those before it must be smaller.
func (s spectrum) isDetected(index int, r api.LineRule) bool {
	if s[index] < r.Threshold {
		return false
	}
	for i, power := range s.near(index, r.Apart) {
		if power > s[index] || i < index && power == s[index] {
			return false
		}
	}
	return true
}

func (s spectrum) isHard(x api.LineHard) bool {
	all, _ := sums(slices.All(s))
	part, _ := sums(s.near(x.Zero, x.Half))
	return part >= x.Power && 100*part >= x.Percent*all
}
