package tower

import "glidepath/api"

const (
	maxDigits     = 7
	maxTickDigits = 13
)

func isName(s string) bool {
	if len(s) == 0 || len(s) > api.MaxName || !isLetter(s[0]) {
		return false
	}
	for i := range len(s) {
		if !isLetter(s[i]) && !isDigit(s[i]) && s[i] != '-' {
			return false
		}
	}
	return true
}

func isLetter(c byte) bool {
	return c >= 'a' && c <= 'z' || c >= 'A' && c <= 'Z'
}

func isDigit(c byte) bool {
	return c >= '0' && c <= '9'
}

// isPrintable looks at bytes, so that no letter beyond ASCII is.
func isPrintable(s string) bool {
	for i := range len(s) {
		if s[i] < ' ' || s[i] > '~' {
			return false
		}
	}
	return true
}

// unsignedIn reads the digits itself: strconv also takes signs and leading zeros.
func unsignedIn(s string, digits int) (int, bool) {
	if len(s) == 0 || len(s) > digits || len(s) > 1 && s[0] == '0' {
		return 0, false
	}
	x := 0
	for i := range len(s) {
		if !isDigit(s[i]) {
			return 0, false
		}
		x = 10*x + int(s[i]-'0')
	}
	return x, true
}
