package line

import (
	"slices"

	"glidepath/api"
)

// FalseRate returns the part of all cases of a noise alone that reach a threshold.
func FalseRate(x api.LineNoise, lines, threshold int) (api.Frac, api.Errno) {
	if e := firstError(noiseError(x), linesError(x, lines), thresholdError(threshold)); e != api.OK {
		return api.Frac{}, e
	}
	return rateOf(noiseOn(x, lines), threshold), api.OK
}

// ThresholdFor returns the smallest threshold whose false rate is at most a risk in thousandths.
func ThresholdFor(x api.LineNoise, lines, risk int) (int, api.Errno) {
	if e := firstError(noiseError(x), linesError(x, lines), rangeError(risk, 0, 1000)); e != api.OK {
		return 0, e
	}
	c := noiseOn(x, lines)
	keepsRisk := func(threshold int) bool { return 1000*reaching(c, threshold) <= risk*caseCount(c) }
	// Above its greatest value a noise alone reaches nothing, and only just above a value the rate falls.
	least := slices.Max(x.Values) + 1
	for _, value := range slices.Concat([]int{-1}, x.Values) {
		if keepsRisk(value + 1) {
			least = min(least, value+1)
		}
	}
	return least, api.OK
}

// DetectedRate returns the part of all cases, with the signal, that reach a threshold.
func DetectedRate(c api.LineCase, threshold int) (api.Frac, api.Errno) {
	if e := firstError(CheckCase(c), thresholdError(threshold)); e != api.OK {
		return api.Frac{}, e
	}
	return rateOf(c, threshold), api.OK
}

func thresholdError(threshold int) api.Errno {
	return rangeError(threshold, 0, api.MaxLinePower+api.MaxLineValue)
}

func linesError(x api.LineNoise, lines int) api.Errno {
	if e := rangeError(lines, 1, api.MaxLineLines); e != api.OK {
		return e
	}
	return casesError(noiseOn(x, lines))
}

// noiseOn is the case of a noise without a signal.
func noiseOn(x api.LineNoise, lines int) api.LineCase {
	return api.LineCase{Signal: make([]int, lines), Noise: x}
}

func rateOf(c api.LineCase, threshold int) api.Frac {
	return lowest(reaching(c, threshold), caseCount(c))
}

// reaching counts the cases in which some line has at least the threshold.
func reaching(c api.LineCase, threshold int) int {
	count, isReached := 0, atLeast(threshold)
	for _, s := range casesOf(c) {
		if slices.ContainsFunc(s, isReached) {
			count++
		}
	}
	return count
}
