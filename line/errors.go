package line

import (
	"slices"

	"glidepath/api"
)

func errorIf(wrong bool, e api.Errno) api.Errno {
	if wrong {
		return e
	}
	return api.OK
}

func rangeError(x, least, most int) api.Errno {
	return errorIf(outside(least, most)(x), api.ErrRange)
}

// firstError takes errors in the order in which they count; all of them are computed before,
// so that none may rely on an earlier one being OK.
func firstError(errors ...api.Errno) api.Errno {
	for _, e := range errors {
		if e != api.OK {
			return e
		}
	}
	return api.OK
}

// numbersError returns the error of numbers, with the index of the one that it concerns.
func numbersError(l []int, longest int, isWrong func(int) bool) (int, api.Errno) {
	if e := firstError(errorIf(len(l) == 0, api.ErrShape), errorIf(len(l) > longest, api.ErrLarge)); e != api.OK {
		return 0, e
	}
	if i := slices.IndexFunc(l, isWrong); i >= 0 {
		return i, api.ErrRange
	}
	return 0, api.OK
}

func outside(least, most int) func(int) bool {
	return func(x int) bool { return x < least || x > most }
}

func atLeast(least int) func(int) bool {
	return func(x int) bool { return x >= least }
}
