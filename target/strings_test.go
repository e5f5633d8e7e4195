package target_test

import (
	"math"
	"slices"
	"strconv"
	"strings"
	"testing"

	"glidepath/api"
	"glidepath/target"
)

// P9.6, example 8
func TestFormatReadings(t *testing.T) {
	for _, c := range []struct {
		readings []api.TargetReading
		want     string
	}{
		{r(), "100 103 2;500 504 1;900 910 3"}, {two(), "0 1 0;1 3 0;2 8 0"}, {[]api.TargetReading{reading(2000, 2000, 1000)}, "2000 2000 1000"},
		// Whatever they are.
		{nil, ""}, {[]api.TargetReading{{}, reading(-1, math.MinInt, math.MaxInt)}, "0 0 0;-1 -9223372036854775808 9223372036854775807"}, {make([]api.TargetReading, 10), strings.Repeat("0 0 0;", 9) + "0 0 0"},
	} {
		if got := target.FormatReadings(c.readings); got != c.want {
			t.Errorf("%v: %q, want %q", c.readings, got, c.want)
		}
	}
}

// P9.6, example 8
func TestFormatLine(t *testing.T) {
	for _, c := range []struct {
		line api.TargetLine
		want string
	}{
		{line(2, 7, 1), "2 7 1"}, {line(1, -7, -1), "1 -7 -1"}, {line(1000000000, 1, -1000000000000), "1000000000 1 -1000000000000"},
		// Whatever they are.
		{api.TargetLine{}, "0 0 0"}, {line(-4, 2, 2), "-4 2 2"}, {line(math.MinInt, math.MaxInt, math.MinInt), "-9223372036854775808 9223372036854775807 -9223372036854775808"},
	} {
		if got := target.FormatLine(c.line); got != c.want {
			t.Errorf("%v: %q, want %q", c.line, got, c.want)
		}
	}
}

// P9.6
func TestParseReadings(t *testing.T) {
	for _, c := range []struct {
		s    string
		want []api.TargetReading
	}{
		{"100 103 2;500 504 1;900 910 3", r()}, {"0 1 0;1 3 0;2 8 0", two()}, {"0 0 0", []api.TargetReading{{}}}, {"2000 1999 1000", []api.TargetReading{reading(2000, 1999, 1000)}},
		{strings.Repeat("9 99 999;", 7) + "1 2 3", append(slices.Repeat([]api.TargetReading{reading(9, 99, 999)}, 7), reading(1, 2, 3))},
	} {
		if got, e := target.ParseReadings(c.s); !same(got, c.want) || e != api.OK {
			t.Errorf("%q: %v, %d, want %v", c.s, got, e, c.want)
		}
	}
}

// P9.6
func TestParseReadingsErrors(t *testing.T) {
	rejected := map[api.Errno][]string{
		api.ErrSyntax: {
			"", " ", "  ", ";", "0", "0 1", "0 1 0 0", "0 1 0;", ";0 1 0", "0 1 0;;0 1 0", "0 1 0;0 1", "0 1;0 1 0", "0 1 0; 0 1 0", "0 1 0 ;0 1 0", " 0 1 0", "0 1 0 ", "0  1 0", "0 1  0", "0 1 ", " 1 0", "0  0",
			"0,1,0", "0 1 0:0 1 0", "0 1 0\n", "0\t1 0", "a 1 0", "0 b 0", "0 1 c", "0x0 1 0", "0 1_0 0", "0 1. 0", "0 1 ٣", "0 1 0\x00", "/ 1 0", "0 : 0",
			"-1 1 0", "0 -1 0", "0 1 -1", "+0 1 0", "0 +1 0", "0 1 +0", "-0 1 0", "0 -0 0", "0 1 -0", "00 1 0", "0 01 0", "0 1 00", "1000000 1 0", "0 1000000 0", "0 1 1000000", "0 1 0000001", "0 1 99999999999999999999", "0 1 0;0 1 -1",
			// Whether a string is malformed comes before what its readings are.
			"999999 0 0;1", strings.Repeat("0 1 0;", 9), strings.Repeat("1", 60000), strings.Repeat("0 1 0;", 10000), strings.Repeat("0 1 0;", 9) + "a", "2001 0 0;0 0 -1",
		},
		api.ErrLarge: {
			strings.Repeat("0 1 0;", 8) + "0 1 0", strings.Repeat("0 1 9999;", 8) + "0 1 0", strings.Repeat("0 1 0;", 9999) + "0 1 0",
			strings.Repeat("1", 60001), strings.Repeat("0 1 0;", 10000) + "0", strings.Repeat(";", 60001), strings.Repeat("0 1 0;", 10000) + "0 1 0", strings.Repeat("-", 60001),
		},
		api.ErrRange: {"2001 0 0", "0 2001 0", "0 0 1001", "999999 999999 999999", "100000 0 0", "0 1 0;0 1 1001", "2000 2000 2000"},
	}
	for want, l := range rejected {
		for _, s := range l {
			got, e := target.ParseReadings(s)
			expectOnly(t, strconv.Quote(s[:min(len(s), 60)]), got, e, want)
		}
	}
}

// P9.6
func TestParseLine(t *testing.T) {
	for _, c := range []struct {
		s    string
		want api.TargetLine
	}{
		{"2 7 1", line(2, 7, 1)}, {"2 -7 1", line(2, -7, 1)}, {"2 7 -1", line(2, 7, -1)}, {"2 -7 -1", line(2, -7, -1)}, {"1 0 0", line(1, 0, 0)}, {"2 0 1", line(2, 0, 1)}, {"2 1 0", line(2, 1, 0)}, {"4 2 1", line(4, 2, 1)}, {"6 3 2", line(6, 3, 2)},
		{"1000000000 -1000000000 999999999999", line(1000000000, -1000000000, 999999999999)}, {"999999999 1000000000 -1000000000000", line(999999999, 1000000000, -1000000000000)}, {"1 1000000000 1000000000000", line(1, 1000000000, 1000000000000)}, {"6 10 15", line(6, 10, 15)},
	} {
		if got, e := target.ParseLine(c.s); got != c.want || e != api.OK {
			t.Errorf("%q: %v, %d, want %v", c.s, got, e, c.want)
		}
	}
}

// P9.6
func TestParseLineErrors(t *testing.T) {
	rejected := map[api.Errno][]string{
		api.ErrSyntax: {
			"", " ", "2", "2 7", "2 7 1 1", "2 7 1 ", " 2 7 1", "2  7 1", "2 7  1", "2 7 ", "  ", "2;7;1", "2 7 1;", "2,7,1", "2 7 1\n", "2\t7 1", "a 7 1", "2 b 1", "2 7 c", "0x2 7 1", "2 7_0 1", "2 7 1.", "2 7 ٣", "2 7 1\x00", "/ 7 1", "2 : 1",
			// A sign stands before the last two alone, and before numbers below 0.
			"-2 7 1", "-0 7 1", "+2 7 1", "2 +7 1", "2 7 +1", "2 -0 1", "2 7 -0", "2 --7 1", "2 7 --1", "2 - 1", "2 7 -", "2 7- 1", "- 7 1", "-1 0 0",
			"02 7 1", "2 07 1", "2 7 01", "2 -07 1", "2 7 -01", "00 7 1", "2 00 1",
			"10000000000000 7 1", "2 10000000000000 1", "2 7 10000000000000", "2 7 -10000000000000", "2 -10000000000000 1", "2 7 99999999999999999999", "2 7 00000000000001",
			// Whether a string is malformed comes before what its line is, and how long it is.
			"0 0 0 0", "0 x 0", "9999999999999 2 -0", strings.Repeat("1", 60000), strings.Repeat("1", 60001), strings.Repeat("2 ", 100000) + "2", strings.Repeat(" ", 60001),
		},
		api.ErrRange: {"0 7 1", "0 0 0", "1000000001 7 1", "2 1000000001 1", "2 -1000000001 1", "2 7 1000000000001", "2 7 -1000000000001", "9999999999999 9999999999999 9999999999999", "2 -9999999999999 -9999999999999", "2000000000 2 2", "2 2000000000 2"},
		api.ErrForm:  {"2 0 0", "4 14 2", "2 -2 4", "2 2 -4", "3 0 9", "3 9 0", "1000000000 1000000000 1000000000000"},
	}
	for want, l := range rejected {
		for _, s := range l {
			got, e := target.ParseLine(s)
			expectOnly(t, strconv.Quote(s[:min(len(s), 60)]), got, e, want)
		}
	}
}

// P9.13
func TestStringsReverse(t *testing.T) {
	draw := &draws{951}
	for i, l := range someReadings(952, 500) {
		s := target.FormatReadings(l)
		if got, e := target.ParseReadings(s); !same(got, l) || e != api.OK || target.FormatReadings(got) != s {
			t.Fatalf("%v: %v, %d", l, got, e)
		}
		most := []int{9, 1000, 1000000000}[i%3]
		x := draw.line(most, most, []int{9, 100000, 1000000000000}[i/3%3])
		s = target.FormatLine(x)
		if got, e := target.ParseLine(s); got != x || e != api.OK || target.FormatLine(got) != s {
			t.Fatalf("%v: %v, %d", x, got, e)
		}
	}
	for _, l := range someApart(953, 200) {
		best, _ := target.LineOf(l)
		if got, e := target.ParseLine(target.FormatLine(best)); got != best || e != api.OK {
			t.Fatalf("%v: %v, %d", best, got, e)
		}
	}
	// What is not valid is not read.
	for _, x := range badReadings() {
		got, e := target.ParseReadings(target.FormatReadings(x.value))
		if e == api.OK || len(got) != 0 {
			t.Errorf("%v: %v, %d", x.value, got, e)
		}
	}
	for _, x := range badLines() {
		got, e := target.ParseLine(target.FormatLine(x.value))
		if e == api.OK || got != (api.TargetLine{}) {
			t.Errorf("%v: %v, %d", x.value, got, e)
		}
	}
}

// R3, R4
func TestStringsMemory(t *testing.T) {
	l, _ := target.ParseReadings("100 103 2")
	l[0].Distance = 7
	if again, _ := target.ParseReadings("100 103 2"); !same(again, r()[:1]) {
		t.Errorf("%v", again)
	}
}
