package pulse

import (
	"iter"
	"slices"

	"glidepath/api"
)

// CorrelationOf returns the correlation of numbers at a lag.
func CorrelationOf(l []api.Gauss, lag int) (api.Gauss, api.Errno) {
	if e := firstError(blockError(l), rangeError(lag, 0, api.MaxPulseSamples)); e != api.OK {
		return api.Gauss{}, e
	}
	return correlation(l, lag, 0), api.OK
}

// CheckSum returns the error of a sum, with the index of the lag, or of the sample of Tail, that it concerns.
func CheckSum(s api.PulseSum) (int, api.Errno) {
	if i, e := listError(s.Lags, api.MaxPulseLags, partsError(api.MaxPulseSum)); e != api.OK {
		return i, e
	}
	e := firstError(
		rangeError(s.Count, 0, api.MaxTick),
		errorIf(len(s.Tail) != min(s.Count, len(s.Lags)-1), api.ErrShape),
	)
	if e != api.OK {
		return 0, e
	}
	return itemError(s.Tail, partsError(api.MaxPulsePart))
}

// Added returns the sum of a stream that is continued by a piece.
func Added(s api.PulseSum, piece []api.Gauss) (api.PulseSum, api.Errno) {
	if e := firstError(sumError(s), blockError(piece)); e != api.OK {
		return api.PulseSum{}, e
	}
	known := slices.Concat(s.Tail, piece)
	sum := api.PulseSum{Count: s.Count + len(piece)}
	for n, more := range correlations(known, len(s.Tail), len(s.Lags)) {
		sum.Lags = append(sum.Lags, plus(s.Lags[n], more))
	}
	newest := min(len(known), len(s.Lags)-1)
	sum.Tail = slices.Clone(known[len(known)-newest:])
	// The sum before was within the limits: what is wrong now was exceeded by the piece.
	if sumError(sum) != api.OK {
		return api.PulseSum{}, api.ErrBreak
	}
	return sum, api.OK
}

// SpectrumBy returns the powers of the lines of a stream, by its correlations alone.
func SpectrumBy(s api.PulseSum) ([4]int, api.Errno) {
	if e := firstError(sumError(s), errorIf(s.Count > len(s.Lags), api.ErrOpen)); e != api.OK {
		return [4]int{}, e
	}
	var powers [4]int
	for k := range powers {
		powers[k] = s.Lags[0].Re
		for n, z := range s.Lags[1:] {
			powers[k] += 2 * turned(z, (n+1)*k).Re
		}
	}
	return powers, api.OK
}

func sumError(s api.PulseSum) api.Errno {
	_, e := CheckSum(s)
	return e
}

// correlations yields the lags from 0 on, each with what the numbers from the index from on
// add to its correlation: those before are counted already.
func correlations(l []api.Gauss, from, lags int) iter.Seq2[int, api.Gauss] {
	return func(yield func(lag int, z api.Gauss) bool) {
		for lag := range lags {
			if !yield(lag, correlation(l, lag, from)) {
				return
			}
		}
	}
}

func correlation(l []api.Gauss, lag, from int) api.Gauss {
	var sum api.Gauss
	for later := max(lag, from); later < len(l); later++ {
		sum = plus(sum, conjugateTimes(l[later-lag], l[later]))
	}
	return sum
}
