package wake

import (
	"strconv"
	"strings"

	"glidepath/api"
)

const (
	maxVortexDigits = 5
	maxBoxDigits    = 7
)

// FormatVortices returns the string of any vortices, also of those that are not valid.
func FormatVortices(l []api.WakeVortex) string {
	vortices := make([]string, len(l))
	for i, v := range l {
		vortices[i] = joined(v.At.Y, v.At.Z, v.Strength)
	}
	return strings.Join(vortices, ";")
}

// ParseVortices returns the vortices of a scan with a string.
func ParseVortices(s string) ([]api.WakeVortex, api.Errno) {
	if len(s) > api.MaxString {
		return nil, api.ErrLarge
	}
	l, ok := vorticesIn(s)
	if e := firstError(errorIf(!ok, api.ErrSyntax), scanError(l)); e != api.OK {
		return nil, e
	}
	return l, api.OK
}

// FormatBox returns the string of any box, also of one that is not valid.
func FormatBox(b api.WakeBox) string {
	var ends []int
	for _, r := range rangesOf(&b) {
		ends = append(ends, r.Lo, r.Hi)
	}
	return joined(ends...)
}

// ParseBox returns the box with a string.
func ParseBox(s string) (api.WakeBox, api.Errno) {
	if len(s) > api.MaxString {
		return api.WakeBox{}, api.ErrLarge
	}
	var b api.WakeBox
	var places []*int
	for _, r := range rangesOf(&b) {
		places = append(places, &r.Lo, &r.Hi)
	}
	ok := numbersIn(s, maxBoxDigits, places...)
	// A sign stands before numbers below 0 alone.
	isSigned := min(b.Z.Lo, b.Z.Hi, b.Strength.Lo, b.Strength.Hi) < 0
	if e := firstError(errorIf(!ok || isSigned, api.ErrSyntax), CheckBox(b)); e != api.OK {
		return api.WakeBox{}, e
	}
	return b, api.OK
}

func joined(l ...int) string {
	words := make([]string, len(l))
	for i, x := range l {
		words[i] = strconv.Itoa(x)
	}
	return strings.Join(words, " ")
}

func vorticesIn(s string) ([]api.WakeVortex, bool) {
	if s == "" {
		return nil, true
	}
	var l []api.WakeVortex
	for _, part := range strings.Split(s, ";") {
		var v api.WakeVortex
		ok := numbersIn(part, maxVortexDigits, &v.At.Y, &v.At.Z, &v.Strength)
		// A height has no sign, which stands before numbers below 0 alone.
		if !ok || v.At.Z < 0 {
			return nil, false
		}
		l = append(l, v)
	}
	return l, true
}

// numbersIn puts as many numbers as there are places.
func numbersIn(s string, digits int, places ...*int) bool {
	words := strings.Split(s, " ")
	if len(words) != len(places) {
		return false
	}
	for i, place := range places {
		x, ok := signedIn(words[i], digits)
		if !ok {
			return false
		}
		*place = x
	}
	return true
}

func signedIn(s string, digits int) (int, bool) {
	unsigned, isBelow := strings.CutPrefix(s, "-")
	x, ok := unsignedIn(unsigned, digits)
	if isBelow {
		// "-0" is not a number.
		return -x, ok && x != 0
	}
	return x, ok
}

// unsignedIn reads the digits itself: strconv also takes signs and leading zeros.
func unsignedIn(s string, digits int) (int, bool) {
	if len(s) == 0 || len(s) > digits || len(s) > 1 && s[0] == '0' {
		return 0, false
	}
	x := 0
	for i := range len(s) {
		if s[i] < '0' || s[i] > '9' {
			return 0, false
		}
		x = 10*x + int(s[i]-'0')
	}
	return x, true
}
