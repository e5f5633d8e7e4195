package shear

import (
	"strconv"
	"strings"

	"glidepath/api"
)

const maxDigits = 6

// FormatProfile returns the string of any profile, also of one that is not valid.
func FormatProfile(l []api.ShearGate) string {
	gates := make([]string, len(l))
	for i, x := range l {
		gates[i] = joined(x.At, x.Wind.Lo, x.Wind.Hi)
	}
	return strings.Join(gates, ";")
}

// ParseProfile returns the profile with a string.
func ParseProfile(s string) ([]api.ShearGate, api.Errno) {
	if len(s) > api.MaxString {
		return nil, api.ErrLarge
	}
	l, ok := profileIn(s)
	if e := firstError(errorIf(!ok, api.ErrSyntax), profileError(l)); e != api.OK {
		return nil, e
	}
	return l, api.OK
}

// FormatRule returns the string of any rule, also of one that is not valid.
func FormatRule(r api.ShearRule) string {
	return joined(r.Raise, r.Clear, r.Hold, r.Timeout)
}

// ParseRule returns the rule with a string.
func ParseRule(s string) (api.ShearRule, api.Errno) {
	var r api.ShearRule
	ok := !strings.Contains(s, "-") && numbersIn(s, &r.Raise, &r.Clear, &r.Hold, &r.Timeout)
	if e := firstError(errorIf(!ok, api.ErrSyntax), CheckRule(r)); e != api.OK {
		return api.ShearRule{}, e
	}
	return r, api.OK
}

func joined(l ...int) string {
	words := make([]string, len(l))
	for i, x := range l {
		words[i] = strconv.Itoa(x)
	}
	return strings.Join(words, " ")
}

func profileIn(s string) ([]api.ShearGate, bool) {
	if s == "" {
		return nil, true
	}
	var l []api.ShearGate
	for _, part := range strings.Split(s, ";") {
		var x api.ShearGate
		// At has no sign.
		if strings.HasPrefix(part, "-") || !numbersIn(part, &x.At, &x.Wind.Lo, &x.Wind.Hi) {
			return nil, false
		}
		l = append(l, x)
	}
	return l, true
}

// numbersIn puts as many numbers as there are places.
func numbersIn(s string, places ...*int) bool {
	words := strings.Split(s, " ")
	if len(words) != len(places) {
		return false
	}
	for i, place := range places {
		x, ok := signedIn(words[i])
		if !ok {
			return false
		}
		*place = x
	}
	return true
}

func signedIn(s string) (int, bool) {
	size, isBelow := strings.CutPrefix(s, "-")
	x, ok := unsignedIn(size)
	if isBelow {
		// "-0" is not a number.
		return -x, ok && x != 0
	}
	return x, ok
}

// unsignedIn reads the digits itself: strconv also takes signs and leading zeros.
func unsignedIn(s string) (int, bool) {
	if len(s) == 0 || len(s) > maxDigits || len(s) > 1 && s[0] == '0' {
		return 0, false
	}
	x := 0
	for i := range len(s) {
		if s[i] < '0' || s[i] > '9' {
			return 0, false
		}
		x = 10*x + int(s[i]-'0')
	}
	return x, true
}
