package wind_test

import (
	"math"
	"slices"
	"strings"
	"testing"

	"glidepath/api"
	"glidepath/wind"
)

// P4.7
func TestFormat(t *testing.T) {
	for _, x := range []struct {
		readings []api.WindReading
		want     string
	}{
		{r(), "1 0 0 3 5;0 1 0 0 0;0 0 1 0 2"},
		{nil, ""},
		{[]api.WindReading{}, ""},
		{readings(reading(-9, 9, 0, -10000, 10000)), "-9 9 0 -10000 10000"},
		{readings(api.WindReading{}, reading(math.MinInt, 10, -10, math.MaxInt, -1)), "0 0 0 0 0;-9223372036854775808 10 -10 9223372036854775807 -1"},
	} {
		if s := wind.FormatReadings(x.readings); s != x.want {
			t.Error(s, x.want)
		}
	}
	for _, x := range []struct {
		wind api.WindVector
		want string
	}{
		{vector(3, 0, 0, 4), "4 3 0 0"},
		{api.WindVector{}, "0 0 0 0"},
		{vector(-1, 2, -3, 1000000000), "1000000000 -1 2 -3"},
		{vector(math.MinInt, math.MaxInt, 8, -2), "-2 -9223372036854775808 9223372036854775807 8"},
	} {
		if s := wind.FormatVector(x.wind); s != x.want {
			t.Error(s, x.want)
		}
	}
}

// P4.7
func TestParseReadings(t *testing.T) {
	for _, x := range []struct {
		s    string
		want []api.WindReading
	}{
		{"1 0 0 3 5;0 1 0 0 0;0 0 1 0 2", r()},
		{"-9 9 -1 -10000 10000", readings(reading(-9, 9, -1, -10000, 10000))},
		{"1 0 0 3 5" + strings.Repeat(";1 0 0 3 5", 5), slices.Repeat(r()[:1], 6)},
	} {
		if l, e := wind.ParseReadings(x.s); e != api.OK || !same(l, x.want) {
			t.Error(x.s, l, e)
		}
	}
	for _, s := range []string{
		"", " ", ";", "1", "1 0 0 3", "1 0 0 3 5 6", "1 0 0 3 5;", ";1 0 0 3 5", "1 0 0 3 5;;0 1 0 0 0", "1 0 0 3 5; 0 1 0 0 0", "1 0 0 3 5 ;0 1 0 0 0",
		" 1 0 0 3 5", "1 0 0 3 5 ", "1  0 0 3 5", "1 0 0  5", "1 0 0 3 ", " 0 0 3 5", "1 0 0 3 5;0 1 0 0", "1 0 0 3 5,0 1 0 0 0", "1 0 0 3 5\n", "1\t0 0 3 5",
		"01 0 0 3 5", "1 00 0 3 5", "1 -0 0 3 5", "1 0 0 -03 5", "1 0 0 +3 5", "1 0 0 3 --5", "1 0 0 3 -", "1 0 0 3 5-", "1 0 0 3 x", "1 0 0 3 5x", "1 0 0 3.0 5", "1 0 0 0x3 5",
		"1 0 0 1e3 5", "1 0 0 1_0 50", "1 0 0 3 12345678", "1 0 0 -12345678 5", "12345678 0 0 3 5", "1 0 0 0 00000001", "1 0 0 3 \xd9\xa1", "1 0 0 3 99999999999999999999",
		"1 0 0 3 5;0 1 0 0 x",
	} {
		l, e := wind.ParseReadings(s)
		expectOnly(t, s, l, e, api.ErrSyntax)
	}
	for _, x := range []struct {
		s    string
		want api.Errno
	}{
		{"10 0 0 3 5", api.ErrRange},
		{"-9999999 0 0 3 5", api.ErrRange},
		{"0 0 0 3 5", api.ErrZero},
		{"1 0 0 -9999999 5", api.ErrRange},
		{"1 0 0 3 10001", api.ErrRange},
		{"1 0 0 5 3", api.ErrOrder},
		{"1 0 0 3 5;0 1 0 0 -1", api.ErrOrder},
		{"1 0 0 3 5" + strings.Repeat(";1 0 0 3 5", 6), api.ErrLarge},
		{"1 0 0 3 5" + strings.Repeat(";1 0 0 3 5", 6) + ";", api.ErrSyntax},
		{"1 0 0 3 5" + strings.Repeat(";1 0 0 3 5", 5999), api.ErrLarge},
		{"0 0 0 3 5" + strings.Repeat(";1 0 0 3 5", 6), api.ErrLarge},
		{"0 0 0 3 5;x", api.ErrSyntax},
		{strings.Repeat("x", 60000), api.ErrSyntax},
		{strings.Repeat("x", 60001), api.ErrLarge},
		{strings.Repeat(";", 60001), api.ErrLarge},
	} {
		l, e := wind.ParseReadings(x.s)
		expectOnly(t, x.s[:3], l, e, x.want)
	}
}

// P4.7
func TestParseVector(t *testing.T) {
	for _, x := range []struct {
		s    string
		want api.WindVector
	}{
		{"4 3 0 0", vector(3, 0, 0, 4)},
		{"1 0 0 0", vector(0, 0, 0, 1)},
		{"1000000000 -1 2 -3", vector(-1, 2, -3, 1000000000)},
		{"1 -1000000000000 1000000000000 0", vector(-1000000000000, 1000000000000, 0, 1)},
	} {
		if v, e := wind.ParseVector(x.s); e != api.OK || v != x.want {
			t.Error(x.s, v, e)
		}
	}
	for _, s := range []string{
		"", " ", "4", "4 3 0", "4 3 0 0 0", "4 3 0 0 ", " 4 3 0 0", "4  3 0 0", "4 3  0", "-4 3 0 0", "-4 -3 0 0", "-0 3 0 0", "4 -0 0 1", "4 3 0 -0", "04 3 0 0", "4 03 0 0", "4 3 00 0",
		"+4 3 0 0", "4 +3 0 0", "4 --3 0 0", "4 - 0 0", "- 3 0 0", "4 3 0 x", "4 3 0 0x", "4 3 0 0;", "4;3;0;0", "4,3,0,0", "4 3 0\t0", "4 3 0 0\n", "4 3.0 0 0", "4 1e3 0 0",
		"1 10000000000000 0 0", "1 0 -10000000000000 0", "10000000000000 0 0 1", "1 0 0 00000000000001", "1 0 0 99999999999999999999", "4 3 0 \xd9\xa1",
		strings.Repeat("4", 60001), strings.Repeat(" ", 60001), strings.Repeat(" ", 3),
	} {
		v, e := wind.ParseVector(s)
		expectOnly(t, s, v, e, api.ErrSyntax)
	}
	for _, x := range []struct {
		s    string
		want api.Errno
	}{
		{"0 3 0 0", api.ErrRange},
		{"1000000001 3 0 0", api.ErrRange},
		{"9999999999999 3 0 0", api.ErrRange},
		{"1 1000000000001 0 0", api.ErrRange},
		{"1 0 -1000000000001 0", api.ErrRange},
		{"2 0 0 9999999999998", api.ErrRange},
		{"2 0 0 -9999999999998", api.ErrRange},
		{"4 2 0 0", api.ErrForm},
		{"2 0 0 0", api.ErrForm},
		{"6 10 -15 -4", api.OK},
		{"6 -10 -14 -4", api.ErrForm},
	} {
		v, e := wind.ParseVector(x.s)
		if x.want == api.OK {
			if e != api.OK || v != vector(10, -15, -4, 6) {
				t.Error(x.s, v, e)
			}
		} else {
			expectOnly(t, x.s, v, e, x.want)
		}
	}
}

// P4.14
func TestParseReversesFormat(t *testing.T) {
	d := draws{14}
	for range 300 {
		l := d.readings(d.from(1, 6), 9, 10000)
		if back, e := wind.ParseReadings(wind.FormatReadings(l)); e != api.OK || !same(back, l) {
			t.Fatal(l, back, e)
		}
		v := vector(d.from(-1000000, 1000000)*d.from(0, 1000000), d.from(-1000000, 1000000), d.from(-9, 9), d.from(1, 1000000000))
		if isDivided(v.X, v.Y, v.Z, v.Den) {
			continue
		}
		if back, e := wind.ParseVector(wind.FormatVector(v)); e != api.OK || back != v {
			t.Fatal(v, back, e)
		}
		fit, e := wind.FitOf(l)
		if e != api.OK {
			continue
		}
		if back, e := wind.ParseVector(wind.FormatVector(fit)); e != api.OK || back != fit {
			t.Fatal(fit, back, e)
		}
	}
}
