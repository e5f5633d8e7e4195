package target

import "glidepath/api"

func errorIf(wrong bool, e api.Errno) api.Errno {
	if wrong {
		return e
	}
	return api.OK
}

func rangeError(x, least, most int) api.Errno {
	return errorIf(x < least || x > most, api.ErrRange)
}

// sizeError compares with both ends, because the smallest whole number has no size.
func sizeError(most int, numbers ...int) api.Errno {
	_, e := itemError(numbers, func(x int) api.Errno { return rangeError(x, -most, most) })
	return e
}

// firstError takes errors in the order in which they count; all of them are computed before,
// so that none may rely on an earlier one being OK.
func firstError(errors ...api.Errno) api.Errno {
	for _, e := range errors {
		if e != api.OK {
			return e
		}
	}
	return api.OK
}

// itemError returns the error of the first item that has one, with its index.
func itemError[T any](l []T, errorOf func(T) api.Errno) (int, api.Errno) {
	for i, x := range l {
		if e := errorOf(x); e != api.OK {
			return i, e
		}
	}
	return 0, api.OK
}

// listError is for lists that may be empty.
func listError[T any](l []T, most int, errorOf func(T) api.Errno) (int, api.Errno) {
	if len(l) > most {
		return 0, api.ErrLarge
	}
	return itemError(l, errorOf)
}

// filledError is for lists that must not be empty.
func filledError[T any](l []T, most int, errorOf func(T) api.Errno) (int, api.Errno) {
	if len(l) == 0 {
		return 0, api.ErrShape
	}
	return listError(l, most, errorOf)
}
