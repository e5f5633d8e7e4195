package line

import (
	"strconv"
	"strings"

	"glidepath/api"
)

const maxDigits = 5

// FormatSpectrum returns the string of any powers, also of those that are not a spectrum.
func FormatSpectrum(l []int) string {
	return joined(l...)
}

// ParseSpectrum returns the spectrum with a string.
func ParseSpectrum(s string) ([]int, api.Errno) {
	if len(s) > api.MaxString {
		return nil, api.ErrLarge
	}
	l, ok := numbersIn(s)
	if e := firstError(errorIf(!ok, api.ErrSyntax), spectrumError(l)); e != api.OK {
		return nil, e
	}
	return l, api.OK
}

// FormatCase returns the string of any case, also of one that is not valid.
func FormatCase(c api.LineCase) string {
	return joined(c.Signal...) + "/" + joined(c.Noise.Values...) + "/" + joined(c.Truth.Num, c.Truth.Den)
}

// ParseCase returns the case with a string.
func ParseCase(s string) (api.LineCase, api.Errno) {
	if len(s) > api.MaxString {
		return api.LineCase{}, api.ErrLarge
	}
	c, ok := caseIn(strings.Split(s, "/"))
	if e := firstError(errorIf(!ok, api.ErrSyntax), CheckCase(c)); e != api.OK {
		return api.LineCase{}, e
	}
	return c, api.OK
}

func joined(l ...int) string {
	words := make([]string, len(l))
	for i, x := range l {
		words[i] = strconv.Itoa(x)
	}
	return strings.Join(words, " ")
}

func caseIn(parts []string) (api.LineCase, bool) {
	if len(parts) != 3 {
		return api.LineCase{}, false
	}
	signal, isSignal := numbersIn(parts[0])
	values, isNoise := numbersIn(parts[1])
	truth, isTruth := truthIn(parts[2])
	c := api.LineCase{Signal: signal, Noise: api.LineNoise{Values: values}, Truth: truth}
	return c, isSignal && isNoise && isTruth
}

func truthIn(s string) (api.Frac, bool) {
	size, isBelow := strings.CutPrefix(s, "-")
	l, ok := numbersIn(size)
	if !ok || len(l) != 2 {
		return api.Frac{}, false
	}
	if isBelow {
		// "-0" is not a number.
		return api.Frac{Num: -l[0], Den: l[1]}, l[0] != 0
	}
	return api.Frac{Num: l[0], Den: l[1]}, true
}

func numbersIn(s string) ([]int, bool) {
	var l []int
	for _, word := range strings.Split(s, " ") {
		x, ok := numberIn(word)
		if !ok {
			return nil, false
		}
		l = append(l, x)
	}
	return l, true
}

// numberIn reads the digits itself: strconv also takes signs and leading zeros.
func numberIn(s string) (int, bool) {
	if len(s) == 0 || len(s) > maxDigits || len(s) > 1 && s[0] == '0' {
		return 0, false
	}
	x := 0
	for i := range len(s) {
		if s[i] < '0' || s[i] > '9' {
			return 0, false
		}
		x = 10*x + int(s[i]-'0')
	}
	return x, true
}
