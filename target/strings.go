package target

import (
	"strconv"
	"strings"

	"glidepath/api"
)

const (
	maxReadingDigits = 6
	maxLineDigits    = 13
)

// FormatReadings returns the string of any readings, also of those that are not valid.
func FormatReadings(l []api.TargetReading) string {
	readings := make([]string, len(l))
	for i, r := range l {
		readings[i] = joined(r.Distance, r.Reading, r.Error)
	}
	return strings.Join(readings, ";")
}

// ParseReadings returns the readings with a string.
func ParseReadings(s string) ([]api.TargetReading, api.Errno) {
	if len(s) > api.MaxString {
		return nil, api.ErrLarge
	}
	l, ok := readingsIn(s)
	if e := firstError(errorIf(!ok, api.ErrSyntax), readingsError(l)); e != api.OK {
		return nil, e
	}
	return l, api.OK
}

// FormatLine returns the string of any line, also of one that is not valid.
func FormatLine(x api.TargetLine) string {
	return joined(x.Den, x.Scale, x.Offset)
}

// ParseLine returns the line with a string.
func ParseLine(s string) (api.TargetLine, api.Errno) {
	var x api.TargetLine
	ok := numbersIn(s, maxLineDigits, &x.Den, &x.Scale, &x.Offset)
	// A sign stands before numbers below 0 alone.
	if e := firstError(errorIf(!ok || x.Den < 0, api.ErrSyntax), lineError(x)); e != api.OK {
		return api.TargetLine{}, e
	}
	return x, api.OK
}

func joined(l ...int) string {
	words := make([]string, len(l))
	for i, x := range l {
		words[i] = strconv.Itoa(x)
	}
	return strings.Join(words, " ")
}

func readingsIn(s string) ([]api.TargetReading, bool) {
	var l []api.TargetReading
	for _, part := range strings.Split(s, ";") {
		var r api.TargetReading
		ok := numbersIn(part, maxReadingDigits, &r.Distance, &r.Reading, &r.Error)
		// A sign stands before numbers below 0 alone.
		if !ok || min(r.Distance, r.Reading, r.Error) < 0 {
			return nil, false
		}
		l = append(l, r)
	}
	return l, true
}

// numbersIn puts as many numbers as there are places.
func numbersIn(s string, digits int, places ...*int) bool {
	words := strings.Split(s, " ")
	if len(words) != len(places) {
		return false
	}
	for i, place := range places {
		x, ok := signedIn(words[i], digits)
		if !ok {
			return false
		}
		*place = x
	}
	return true
}

func signedIn(s string, digits int) (int, bool) {
	unsigned, isBelow := strings.CutPrefix(s, "-")
	x, ok := unsignedIn(unsigned, digits)
	if isBelow {
		// "-0" is not a number.
		return -x, ok && x != 0
	}
	return x, ok
}

// unsignedIn reads the digits itself: strconv also takes signs and leading zeros.
func unsignedIn(s string, digits int) (int, bool) {
	if len(s) == 0 || len(s) > digits || len(s) > 1 && s[0] == '0' {
		return 0, false
	}
	x := 0
	for i := range len(s) {
		if !isDigit(s[i]) {
			return 0, false
		}
		x = 10*x + int(s[i]-'0')
	}
	return x, true
}
