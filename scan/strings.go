package scan

import (
	"strconv"
	"strings"

	"glidepath/api"
)

const maxDigits = 5

// Beyond these limits nothing is promised. A program that contains itself, because its slices
// share memory, exceeds them, but formatting it must end.
const (
	maxLevels = 1 << 16
	maxBytes  = 1<<31 - 1
)

// FormatSteps returns the string of any steps, also of those that are not a program.
func FormatSteps(l []api.ScanStep) string {
	var w writer
	w.steps(l, 0)
	return w.String()
}

// ParseSteps returns the program with a string.
func ParseSteps(s string) ([]api.ScanStep, api.Errno) {
	if len(s) > api.MaxScanString {
		return nil, api.ErrLarge
	}
	r := reader{rest: s}
	l, ok := r.steps()
	if !ok || r.rest != "" {
		return nil, api.ErrSyntax
	}
	if e := programError(l); e != api.OK {
		return nil, e
	}
	return l, api.OK
}

// writer writes a string, as reader reads it.
type writer struct{ strings.Builder }

func (w *writer) steps(l []api.ScanStep, level int) {
	for i, x := range l {
		if level > maxLevels || w.Len() > maxBytes {
			return
		}
		if i > 0 {
			w.WriteString(";")
		}
		w.step(x, level)
	}
}

func (w *writer) step(x api.ScanStep, level int) {
	d := x.Direction
	switch x.Kind {
	case api.ScanPoint:
		w.words("point", d.Azimuth, d.Elevation, x.Ticks)
	case api.ScanSweep:
		w.words("sweep", d.Azimuth, x.To, x.By, d.Elevation, x.Ticks)
	case api.ScanRepeat:
		w.words("repeat", x.Times)
		w.WriteString(" (")
		w.steps(x.Body, level+1)
		w.WriteString(")")
	}
}

func (w *writer) words(first string, numbers ...int) {
	w.WriteString(first)
	for _, x := range numbers {
		w.WriteString(" ")
		w.WriteString(strconv.Itoa(x))
	}
}

// reader reads a string from its front, and keeps the rest.
type reader struct{ rest string }

func (r *reader) steps() ([]api.ScanStep, bool) {
	var l []api.ScanStep
	for {
		x, ok := r.step()
		if !ok {
			return nil, false
		}
		l = append(l, x)
		if !r.take(";") {
			return l, true
		}
	}
}

func (r *reader) step() (api.ScanStep, bool) {
	var x api.ScanStep
	d := &x.Direction
	ok := false
	switch {
	case r.take("point"):
		x.Kind = api.ScanPoint
		ok = r.numbers(&d.Azimuth, &d.Elevation, &x.Ticks)
	case r.take("sweep"):
		x.Kind = api.ScanSweep
		ok = r.numbers(&d.Azimuth, &x.To, &x.By, &d.Elevation, &x.Ticks)
	case r.take("repeat"):
		x.Kind = api.ScanRepeat
		ok = r.numbers(&x.Times) && r.body(&x.Body)
	}
	return x, ok
}

func (r *reader) body(to *[]api.ScanStep) bool {
	if !r.take(" (") {
		return false
	}
	l, ok := r.steps()
	*to = l
	return ok && r.take(")")
}

// numbers reads a blank and a number for each place where one is put.
func (r *reader) numbers(places ...*int) bool {
	for _, place := range places {
		if !r.take(" ") {
			return false
		}
		x, ok := r.number()
		if !ok {
			return false
		}
		*place = x
	}
	return true
}

// number takes all digits that follow: if there are too many they are no number.
func (r *reader) number() (int, bool) {
	others := strings.TrimLeft(r.rest, "0123456789")
	digits := r.rest[:len(r.rest)-len(others)]
	if digits == "" || len(digits) > maxDigits || len(digits) > 1 && digits[0] == '0' {
		return 0, false
	}
	r.rest = others
	x := 0
	for _, digit := range []byte(digits) {
		x = 10*x + int(digit-'0')
	}
	return x, true
}

func (r *reader) take(sign string) bool {
	rest, isThere := strings.CutPrefix(r.rest, sign)
	r.rest = rest
	return isThere
}
