package cloud

import (
	"strconv"
	"strings"

	"glidepath/api"
)

const maxDigits = 5

// FormatProfile returns the string of any profile, also of one that is not valid.
func FormatProfile(l []int) string {
	return joined(l...)
}

// ParseProfile returns the profile with a string.
func ParseProfile(s string) ([]int, api.Errno) {
	if len(s) > api.MaxString {
		return nil, api.ErrLarge
	}
	l, ok := numbersIn(s)
	if e := firstError(errorIf(!ok, api.ErrSyntax), profileError(l)); e != api.OK {
		return nil, e
	}
	return l, api.OK
}

// FormatLayers returns the string of any layers, also of those that are not valid.
func FormatLayers(l []api.CloudLayer) string {
	layers := make([]string, len(l))
	for i, x := range l {
		layers[i] = joined(x.Base, x.Top, x.Eighths)
	}
	return strings.Join(layers, ";")
}

// ParseLayers returns the layers with a string.
func ParseLayers(s string) ([]api.CloudLayer, api.Errno) {
	if len(s) > api.MaxString {
		return nil, api.ErrLarge
	}
	l, ok := layersIn(s)
	if e := firstError(errorIf(!ok, api.ErrSyntax), layersError(l)); e != api.OK {
		return nil, e
	}
	return l, api.OK
}

func joined(l ...int) string {
	words := make([]string, len(l))
	for i, x := range l {
		words[i] = strconv.Itoa(x)
	}
	return strings.Join(words, " ")
}

func layersIn(s string) ([]api.CloudLayer, bool) {
	if s == "" {
		return nil, true
	}
	var l []api.CloudLayer
	for _, part := range strings.Split(s, ";") {
		words, ok := numbersIn(part)
		if !ok || len(words) != 3 {
			return nil, false
		}
		l = append(l, api.CloudLayer{Base: words[0], Top: words[1], Eighths: words[2]})
	}
	return l, true
}

// numbersIn finds at least one number: an empty string is an empty word.
func numbersIn(s string) ([]int, bool) {
	var l []int
	for _, word := range strings.Split(s, " ") {
		x, ok := unsignedIn(word)
		if !ok {
			return nil, false
		}
		l = append(l, x)
	}
	return l, true
}

// unsignedIn reads the digits itself: strconv also takes signs and leading zeros.
func unsignedIn(s string) (int, bool) {
	if len(s) == 0 || len(s) > maxDigits || len(s) > 1 && s[0] == '0' {
		return 0, false
	}
	x := 0
	for i := range len(s) {
		if s[i] < '0' || s[i] > '9' {
			return 0, false
		}
		x = 10*x + int(s[i]-'0')
	}
	return x, true
}
