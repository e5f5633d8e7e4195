package cloud

import "glidepath/api"

func errorIf(wrong bool, e api.Errno) api.Errno {
	if wrong {
		return e
	}
	return api.OK
}

func rangeError(x, least, most int) api.Errno {
	return errorIf(x < least || x > most, api.ErrRange)
}

// firstError takes errors in the order in which they count; all of them are computed before,
// so that none may rely on an earlier one being OK.
func firstError(errors ...api.Errno) api.Errno {
	for _, e := range errors {
		if e != api.OK {
			return e
		}
	}
	return api.OK
}

// itemError returns the error of the first item that has one, with its index. The items before
// have no error.
func itemError[T any](l []T, errorOf func(before []T, x T) api.Errno) (int, api.Errno) {
	for i, x := range l {
		if e := errorOf(l[:i], x); e != api.OK {
			return i, e
		}
	}
	return 0, api.OK
}

// listError is for lists that may be empty.
func listError[T any](l []T, most int, errorOf func(before []T, x T) api.Errno) (int, api.Errno) {
	if len(l) > most {
		return 0, api.ErrLarge
	}
	return itemError(l, errorOf)
}

// filledError is for lists that must not be empty.
func filledError[T any](l []T, most int, errorOf func(before []T, x T) api.Errno) (int, api.Errno) {
	if len(l) == 0 {
		return 0, api.ErrShape
	}
	return listError(l, most, errorOf)
}

// within finds the error of numbers that do not depend on those before.
func within(least, most int) func([]int, int) api.Errno {
	return func(_ []int, x int) api.Errno { return rangeError(x, least, most) }
}

func constantError(constant int) api.Errno {
	return rangeError(constant, 1, api.MaxCloudConstant)
}

func penaltyError(penalty int) api.Errno {
	return rangeError(penalty, 0, api.MaxCloudPenalty)
}

func windowError(window int) api.Errno {
	return rangeError(window, 1, api.MaxCloudTime)
}
