package tower

import "glidepath/api"

func errorIf(wrong bool, e api.Errno) api.Errno {
	if wrong {
		return e
	}
	return api.OK
}

func rangeError(x, least, most int) api.Errno {
	return errorIf(x < least || x > most, api.ErrRange)
}

// firstError takes errors in the order in which they count; all of them are computed before,
// so that none may rely on an earlier one being OK.
func firstError(errors ...api.Errno) api.Errno {
	for _, e := range errors {
		if e != api.OK {
			return e
		}
	}
	return api.OK
}

// itemError returns the error of the first item that has one, with its index. The items before
// have no error.
func itemError[T any](l []T, errorOf func(before []T, x T) api.Errno) (int, api.Errno) {
	for i, x := range l {
		if e := errorOf(l[:i], x); e != api.OK {
			return i, e
		}
	}
	return 0, api.OK
}
