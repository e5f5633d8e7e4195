package line

import (
	"iter"
	"slices"

	"glidepath/api"
)

// CheckNoise returns the error of a noise, with the index of the value that it concerns.
func CheckNoise(x api.LineNoise) (int, api.Errno) {
	return numbersError(x.Values, api.MaxLineValues, outside(0, api.MaxLineValue))
}

// CheckCase returns the error of a case.
func CheckCase(c api.LineCase) api.Errno {
	if e := firstError(spectrumError(c.Signal), noiseError(c.Noise)); e != api.OK {
		return e
	}
	isTooStrong := atLeast(api.MaxLinePower - api.MaxLineValue + 1)
	return firstError(
		errorIf(slices.ContainsFunc(c.Signal, isTooStrong), api.ErrRange),
		casesError(c),
		truthError(c.Truth),
	)
}

// Noisy returns the spectrum of a case with the noise of a number.
func Noisy(c api.LineCase, number int) ([]int, api.Errno) {
	if e := CheckCase(c); e != api.OK {
		return nil, e
	}
	if hasNoCase(c, number) {
		return nil, api.ErrMissing
	}
	return noisy(c, number), api.OK
}

func noiseError(x api.LineNoise) api.Errno {
	_, e := CheckNoise(x)
	return e
}

// casesError expects a signal and a noise without errors: their cases can be counted.
func casesError(c api.LineCase) api.Errno {
	return errorIf(caseCount(c) > api.MaxLineCases, api.ErrLarge)
}

func truthError(x api.Frac) api.Errno {
	return firstError(
		fractionError(x),
		rangeError(x.Num, -api.MaxLineTruth, api.MaxLineTruth),
		rangeError(x.Den, 1, api.MaxLineTruth),
	)
}

func caseCount(c api.LineCase) int {
	count := 1
	for range c.Signal {
		count *= len(c.Noise.Values)
	}
	return count
}

func hasNoCase(c api.LineCase, number int) bool {
	return outside(0, caseCount(c)-1)(number)
}

// casesOf yields the number of each case with its spectrum.
func casesOf(c api.LineCase) iter.Seq2[int, spectrum] {
	return func(yield func(number int, s spectrum) bool) {
		for number := range caseCount(c) {
			if !yield(number, noisy(c, number)) {
				return
			}
		}
	}
}

// noisy takes the number as digits, one for each line from the line 0 on.
func noisy(c api.LineCase, number int) spectrum {
	values := c.Noise.Values
	s := make(spectrum, len(c.Signal))
	digits := number
	for i, power := range c.Signal {
		s[i] = power + values[digits%len(values)]
		digits /= len(values)
	}
	return s
}
