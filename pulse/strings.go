package pulse

import (
	"strconv"
	"strings"

	"glidepath/api"
)

// FormatBlock returns the string of any samples, also of those that are not a block.
func FormatBlock(l []api.Gauss) string {
	samples := make([]string, len(l))
	for i, z := range l {
		samples[i] = joined(z.Re, z.Im)
	}
	return strings.Join(samples, ";")
}

// ParseBlock returns the block with a string.
func ParseBlock(s string) ([]api.Gauss, api.Errno) {
	if len(s) > api.MaxString {
		return nil, api.ErrLarge
	}
	var l []api.Gauss
	for _, sample := range strings.Split(s, ";") {
		z, ok := sampleIn(sample)
		if !ok {
			return nil, api.ErrSyntax
		}
		l = append(l, z)
	}
	if e := blockError(l); e != api.OK {
		return nil, e
	}
	return l, api.OK
}

// FormatGates returns the string of any gates, also of those that are not valid.
func FormatGates(g api.PulseGates) string {
	return joined(append([]int{g.First, g.Hop, g.Count}, g.Weights...)...)
}

// ParseGates returns the gates with a string.
func ParseGates(s string) (api.PulseGates, api.Errno) {
	if len(s) > api.MaxString {
		return api.PulseGates{}, api.ErrLarge
	}
	var l []int
	for _, word := range strings.Split(s, " ") {
		x, ok := unsignedIn(word, 3)
		if !ok {
			return api.PulseGates{}, api.ErrSyntax
		}
		l = append(l, x)
	}
	if len(l) < 3 {
		return api.PulseGates{}, api.ErrSyntax
	}
	g := api.PulseGates{First: l[0], Hop: l[1], Count: l[2], Weights: l[3:]}
	if e := gatesError(g); e != api.OK {
		return api.PulseGates{}, e
	}
	return g, api.OK
}

func joined(l ...int) string {
	words := make([]string, len(l))
	for i, x := range l {
		words[i] = strconv.Itoa(x)
	}
	return strings.Join(words, " ")
}

func sampleIn(s string) (api.Gauss, bool) {
	// Without a blank the second word is empty, and a third one is no part of a number.
	first, second, _ := strings.Cut(s, " ")
	re, isRe := signedIn(first, 4)
	im, isIm := signedIn(second, 4)
	return api.Gauss{Re: re, Im: im}, isRe && isIm
}

func signedIn(s string, digits int) (int, bool) {
	size, isBelow := strings.CutPrefix(s, "-")
	x, ok := unsignedIn(size, digits)
	if isBelow {
		// "-0" is not a number.
		return -x, ok && x != 0
	}
	return x, ok
}

// unsignedIn reads the digits itself: strconv also takes signs and leading zeros.
func unsignedIn(s string, digits int) (int, bool) {
	if len(s) == 0 || len(s) > digits || len(s) > 1 && s[0] == '0' {
		return 0, false
	}
	x := 0
	for i := range len(s) {
		if s[i] < '0' || s[i] > '9' {
			return 0, false
		}
		x = 10*x + int(s[i]-'0')
	}
	return x, true
}
