package line_test

import (
	"math"
	"reflect"
	"slices"
	"strings"
	"testing"

	"glidepath/api"
	"glidepath/line"
)

// P2.8
func TestFormat(t *testing.T) {
	for _, x := range []struct {
		lines []int
		want  string
	}{
		{four(), "1 4 2 0"},
		{nil, ""},
		{[]int{-1, 10001}, "-1 10001"},
		{[]int{math.MinInt, math.MaxInt}, "-9223372036854775808 9223372036854775807"},
	} {
		if s := line.FormatSpectrum(x.lines); s != x.want {
			t.Error(s, x.want)
		}
	}
	for _, x := range []struct {
		lineCase api.LineCase
		want     string
	}{
		{two(), "2 2/0 1/0 1"},
		{api.LineCase{}, "//0 0"},
		{api.LineCase{Signal: []int{-7}, Noise: noise(1, -2, 3, 4, 5), Truth: frac(-6, -4)}, "-7/1 -2 3 4 5/-6 -4"},
	} {
		if s := line.FormatCase(x.lineCase); s != x.want {
			t.Error(s, x.want)
		}
	}
}

// P2.8
func TestParseSpectrum(t *testing.T) {
	for _, x := range []struct {
		s    string
		want []int
	}{
		{"1 4 2 0", four()},
		{"0", []int{0}},
		{"10000" + strings.Repeat(" 10000", 15), slices.Repeat([]int{10000}, 16)},
	} {
		if l, e := line.ParseSpectrum(x.s); e != api.OK || !same(l, x.want) {
			t.Error(x.s, l, e)
		}
	}
	for _, s := range []string{
		"", " ", " 1", "1 ", "1  2", "01", "00", "1 02", "+1", "-1", "-0", "100000", "1 000001", "a", "1a", "1 a 2",
		"1,2", "1/2", "1\t2", "1\n", "1.0", "0x1", "1e3", "1_0", "\xd9\xa1",
	} {
		l, e := line.ParseSpectrum(s)
		expectOnly(t, s, l, e, api.ErrSyntax)
	}
	for _, x := range []struct {
		s    string
		want api.Errno
	}{
		{"10001", api.ErrRange},
		{"99999", api.ErrRange},
		{"0" + strings.Repeat(" 0", 16), api.ErrLarge},
		{"0" + strings.Repeat(" 0", 16) + " x", api.ErrSyntax},
		{"10" + strings.Repeat(" 0", 29999), api.ErrLarge},
		{strings.Repeat("x", 60000), api.ErrSyntax},
		{strings.Repeat("x", 60001), api.ErrLarge},
	} {
		l, e := line.ParseSpectrum(x.s)
		expectOnly(t, x.s[:5], l, e, x.want)
	}
}

// P2.8
func TestParseCase(t *testing.T) {
	for _, x := range []struct {
		s    string
		want api.LineCase
	}{
		{"2 2/0 1/0 1", two()},
		{"9000/1000/-100 99", api.LineCase{Signal: []int{9000}, Noise: noise(1000), Truth: frac(-100, 99)}},
		{"0 0 0 0 0 0/4 3 2 1/1 100", api.LineCase{Signal: make([]int, 6), Noise: noise(4, 3, 2, 1), Truth: frac(1, 100)}},
	} {
		if c, e := line.ParseCase(x.s); e != api.OK || !reflect.DeepEqual(c, x.want) {
			t.Error(x.s, c, e)
		}
	}
	for _, s := range []string{
		"", "/", "//", "2 2", "2 2/0 1", "2 2/0 1/0 1/", "2 2/0 1/0 1/0", "/0 1/0 1", "2 2//0 1", "2 2/0 1/", "2 2/0 1/0", "2 2/0 1/0 1 1",
		"2 2/0 1/-0 1", "2 2/0 1/0 -1", "2 2/0 1/1 -1", "2 2/0 1/--1 1", "2 2/0 1/- 1", "2 2/0 1/-1", "2 2/0 1/-", "-2 2/0 1/0 1", "2 2/-0 1/0 1",
		"2 2/0 1/+1 1", "2 2/0 1/-01 1", "2 2/0 1/01 1", "2 2/0 1/1 01", "02 2/0 1/0 1", "2 2/00 1/0 1", "2  2/0 1/0 1", "2 2 /0 1/0 1", "2 2/ 0 1/0 1",
		"2 2/0 1/ 0 1", "2 2/0 1/0 1 ", "2 2/0 1/0  1", "2 2/0 1/-100000 1", "2 2/0 1/100000 1", "2 2/0 1/1 100000", "100000/0/0 1", "0/100000/0 1",
		"2 2;0 1;0 1", "2 x/0 1/0 1", "2 2/x/0 1", "2 2/0 1/0 x",
	} {
		c, e := line.ParseCase(s)
		expectOnly(t, s, c, e, api.ErrSyntax)
	}
	for _, x := range []struct {
		s    string
		want api.Errno
	}{
		{"10001/0/0 1", api.ErrRange},
		{"9001/0/0 1", api.ErrRange},
		{"0" + strings.Repeat(" 0", 16) + "/0/0 1", api.ErrLarge},
		{"0/0 0 0 0 0/0 1", api.ErrLarge},
		{"0/1001/0 1", api.ErrRange},
		{"0 0 0 0 0 0 0/0 0 0 0/0 0", api.ErrLarge},
		{"0/0/0 0", api.ErrForm},
		{"0/0/0 2", api.ErrForm},
		{"0/0/-2 4", api.ErrForm},
		{"0/0/-99999 1", api.ErrRange},
		{"0/0/101 1", api.ErrRange},
		{"0/0/1 101", api.ErrRange},
		{strings.Repeat("/", 60000), api.ErrSyntax},
		{strings.Repeat("/", 60001), api.ErrLarge},
	} {
		c, e := line.ParseCase(x.s)
		expectOnly(t, x.s[:5], c, e, x.want)
	}
}

// P2.15
func TestParseReversesFormat(t *testing.T) {
	d := draws{15}
	for range 300 {
		l := d.spectrum(10000)
		if back, e := line.ParseSpectrum(line.FormatSpectrum(l)); e != api.OK || !same(back, l) {
			t.Fatal(l, back, e)
		}
		c := api.LineCase{
			Signal: d.list(d.from(1, 6), 0, 9000),
			Noise:  noise(d.list(d.from(1, 4), 0, 1000)...),
			Truth:  lowest(d.from(-100, 100), d.from(1, 100)),
		}
		if back, e := line.ParseCase(line.FormatCase(c)); e != api.OK || !reflect.DeepEqual(back, c) {
			t.Fatal(c, back, e)
		}
	}
}
