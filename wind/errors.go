package wind

import "glidepath/api"

func errorIf(wrong bool, e api.Errno) api.Errno {
	if wrong {
		return e
	}
	return api.OK
}

func rangeError(x, least, most int) api.Errno {
	return errorIf(x < least || x > most, api.ErrRange)
}

// firstError takes errors in the order in which they count; all of them are computed before,
// so that none may rely on an earlier one being OK.
func firstError(errors ...api.Errno) api.Errno {
	for _, e := range errors {
		if e != api.OK {
			return e
		}
	}
	return api.OK
}

func itemError[T any](l []T, errorOf func(T) api.Errno) (int, api.Errno) {
	for i, x := range l {
		if e := errorOf(x); e != api.OK {
			return i, e
		}
	}
	return 0, api.OK
}

// listError is for lists that must not be empty.
func listError[T any](l []T, most int, errorOf func(T) api.Errno) (int, api.Errno) {
	if e := firstError(errorIf(len(l) == 0, api.ErrShape), errorIf(len(l) > most, api.ErrLarge)); e != api.OK {
		return 0, e
	}
	return itemError(l, errorOf)
}

// sizeError compares with both ends, because the smallest whole number has no size.
func sizeError(most int) func(int) api.Errno {
	return func(x int) api.Errno { return rangeError(x, -most, most) }
}

func endsError(r api.Range, most int) api.Errno {
	errorOf := sizeError(most)
	return firstError(errorOf(r.Lo), errorOf(r.Hi), errorIf(r.Lo > r.Hi, api.ErrOrder))
}

// ascending finds the error of numbers that are asked for one after the other: none is below 0,
// and each is greater than the one before.
func ascending() func(int) api.Errno {
	before := -1
	return func(x int) api.Errno {
		e := errorIf(x <= before, api.ErrOrder)
		before = x
		return e
	}
}
