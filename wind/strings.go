package wind

import (
	"strconv"
	"strings"

	"glidepath/api"
)

const (
	maxReadingDigits = 7
	maxVectorDigits  = 13
)

// FormatReadings returns the string of any readings, also of those that are not valid.
func FormatReadings(l []api.WindReading) string {
	readings := make([]string, len(l))
	for i, x := range l {
		d := x.Direction
		readings[i] = joined(d[0], d[1], d[2], x.Value.Lo, x.Value.Hi)
	}
	return strings.Join(readings, ";")
}

// ParseReadings returns the readings with a string.
func ParseReadings(s string) ([]api.WindReading, api.Errno) {
	if len(s) > api.MaxString {
		return nil, api.ErrLarge
	}
	var l []api.WindReading
	for _, part := range strings.Split(s, ";") {
		x, ok := readingIn(part)
		if !ok {
			return nil, api.ErrSyntax
		}
		l = append(l, x)
	}
	if e := readingsError(l); e != api.OK {
		return nil, e
	}
	return l, api.OK
}

// FormatVector returns the string of any wind, also of one that is not valid.
func FormatVector(v api.WindVector) string {
	return joined(v.Den, v.X, v.Y, v.Z)
}

// ParseVector returns the wind with a string.
func ParseVector(s string) (api.WindVector, api.Errno) {
	// Den has no sign.
	var v api.WindVector
	ok := !strings.HasPrefix(s, "-") && numbersIn(s, maxVectorDigits, &v.Den, &v.X, &v.Y, &v.Z)
	if e := firstError(errorIf(!ok, api.ErrSyntax), windError(v)); e != api.OK {
		return api.WindVector{}, e
	}
	return v, api.OK
}

func joined(l ...int) string {
	words := make([]string, len(l))
	for i, x := range l {
		words[i] = strconv.Itoa(x)
	}
	return strings.Join(words, " ")
}

func readingIn(s string) (api.WindReading, bool) {
	var x api.WindReading
	d := &x.Direction
	ok := numbersIn(s, maxReadingDigits, &d[0], &d[1], &d[2], &x.Value.Lo, &x.Value.Hi)
	return x, ok
}

// numbersIn puts as many numbers as there are places.
func numbersIn(s string, digits int, places ...*int) bool {
	words := strings.Split(s, " ")
	if len(words) != len(places) {
		return false
	}
	for i, place := range places {
		x, ok := signedIn(words[i], digits)
		if !ok {
			return false
		}
		*place = x
	}
	return true
}

func signedIn(s string, digits int) (int, bool) {
	size, isBelow := strings.CutPrefix(s, "-")
	x, ok := unsignedIn(size, digits)
	if isBelow {
		// "-0" is not a number.
		return -x, ok && x != 0
	}
	return x, ok
}

// unsignedIn reads the digits itself: strconv also takes signs and leading zeros.
func unsignedIn(s string, digits int) (int, bool) {
	if len(s) == 0 || len(s) > digits || len(s) > 1 && s[0] == '0' {
		return 0, false
	}
	x := 0
	for i := range len(s) {
		if s[i] < '0' || s[i] > '9' {
			return 0, false
		}
		x = 10*x + int(s[i]-'0')
	}
	return x, true
}
