package scan_test

import (
	"math"
	"reflect"
	"strings"
	"testing"

	"glidepath/api"
	"glidepath/scan"
)

const exampleString = "point 0 0 2;sweep 10 30 10 5 1;repeat 2 (point 0 90 1)"

// P3.7
func TestFormatSteps(t *testing.T) {
	other := api.ScanStep{Kind: 3, Direction: dir(1, 2), To: 3, By: 4, Ticks: 5, Times: 6, Body: example()}
	full := other
	full.Kind = api.ScanPoint
	for _, x := range []struct {
		steps []api.ScanStep
		want  string
	}{
		{example(), exampleString},
		{steps(sweep(1, 2, 3, 4, 5)), "sweep 1 2 3 4 5"},
		{steps(repeat(10, repeat(2, point(1, 2, 3), point(4, 5, 6)), point(7, 8, 9)), point(0, 0, 0)), "repeat 10 (repeat 2 (point 1 2 3;point 4 5 6);point 7 8 9);point 0 0 0"},
		// Whatever it is.
		{nil, ""},
		{steps(other), ""},
		{steps(other, other), ";"},
		{steps(point(1, 2, 3), api.ScanStep{Kind: -1}, point(4, 5, 6)), "point 1 2 3;;point 4 5 6"},
		{steps(repeat(0)), "repeat 0 ()"},
		{steps(repeat(-2, other)), "repeat -2 ()"},
		{steps(full), "point 1 2 5"},
		{steps(point(-1, 100, math.MinInt)), "point -1 100 -9223372036854775808"},
		{steps(sweep(math.MaxInt, -1, 0, 1000000, -3)), "sweep 9223372036854775807 -1 0 1000000 -3"},
		{steps(repeat(1, repeat(1, repeat(1, repeat(1, point(0, 0, 0)))))), "repeat 1 (repeat 1 (repeat 1 (repeat 1 (point 0 0 0))))"},
	} {
		if s := scan.FormatSteps(x.steps); s != x.want {
			t.Error(s, x.want)
		}
	}
	full.Kind = api.ScanSweep
	if s := scan.FormatSteps(steps(full)); s != "sweep 1 3 4 2 5" {
		t.Error(s)
	}
	full.Kind = api.ScanRepeat
	if s := scan.FormatSteps(steps(full)); s != "repeat 6 ("+exampleString+")" {
		t.Error(s)
	}
}

// P3.7
func TestFormatManySteps(t *testing.T) {
	deep := point(0, 0, 0)
	for range 1000 {
		deep = repeat(1, deep)
	}
	want := strings.Repeat("repeat 1 (", 1000) + "point 0 0 0" + strings.Repeat(")", 1000)
	if s := scan.FormatSteps(steps(deep)); s != want {
		t.Error(len(s), len(want))
	}
	many := make([]api.ScanStep, 2000)
	want = strings.Repeat("point 0 0 0;", 1999) + "point 0 0 0"
	if s := scan.FormatSteps(many); s != want {
		t.Error(len(s), len(want))
	}
}

// P3.7
func TestParseSteps(t *testing.T) {
	for _, x := range []struct {
		s    string
		want []api.ScanStep
	}{
		{exampleString, example()},
		{"point 359 90 1000", steps(point(359, 90, 1000))},
		{"sweep 350 10 10 90 1000", steps(sweep(350, 10, 10, 90, 1000))},
		{"sweep 1 2 360 3 4", steps(sweep(1, 2, 360, 3, 4))},
		{"repeat 10 (repeat 2 (point 1 2 3;sweep 0 0 1 0 0);point 7 8 9);point 0 0 0", steps(repeat(10, repeat(2, point(1, 2, 3), sweep(0, 0, 1, 0, 0)), point(7, 8, 9)), point(0, 0, 0))},
		{"repeat 1 (repeat 1 (point 0 0 0));repeat 1 (point 0 0 0)", steps(repeat(1, repeat(1, point(0, 0, 0))), repeat(1, point(0, 0, 0)))},
	} {
		if l, e := scan.ParseSteps(x.s); e != api.OK || !reflect.DeepEqual(l, x.want) {
			t.Error(x.s, l, e)
		}
	}
}

// P3.7
func TestParseStepsSyntax(t *testing.T) {
	for _, s := range []string{
		"", " ", ";", "()", "(", ")", "point", "point ", "point 0", "point 0 0", "point 0 0 ", "point 0 0 0 ", " point 0 0 0", "point  0 0 0", "point 0  0 0",
		"point 0 0 0 0", "point 0 0 0;", ";point 0 0 0", "point 0 0 0;;point 0 0 0", "point 0 0 0; point 0 0 0", "point 0 0 0 ;point 0 0 0", "point 0 0 0,point 0 0 0",
		"Point 0 0 0", "POINT 0 0 0", "points 0 0 0", "poin 0 0 0", "point0 0 0", "point 00 0 0", "point 0 01 0", "point 0 0 00", "point 0 0 00001", "point 0 0 000000",
		"point -1 0 0", "point -0 0 0", "point +1 0 0", "point 0 -1 0", "point 0 0 -1", "point 0 0 +1", "point 100000 0 0", "point 0 100000 0", "point 0 0 100000", "point 0 0 1000000000000000000000",
		"point a 0 0", "point 0 0 a", "point 0 0 1a", "point 0 0 0x1", "point 0 0 1.0", "point 0 0 1e1", "point 0 0 1_0", "point\t0 0 0", "point 0 0 0\n", "point 0 0 \xd9\xa1",
		"sweep", "sweep 0 0 1 0", "sweep 0 0 1 0 ", "sweep 0 0 1 0 0 0", "sweep 0 0 1 0 0 ", "sweep 0 0 -1 0 0", "sweep 0 0 100000 0 0", "sweep 0 0 01 0 0", "sweep  0 0 1 0 0",
		"repeat", "repeat 1", "repeat 1 ", "repeat 1 (", "repeat 1 ()", "repeat 1 (point 0 0 0", "repeat 1 point 0 0 0", "repeat 1 point 0 0 0)", "repeat 1(point 0 0 0)", "repeat 1  (point 0 0 0)",
		"repeat 1 ( point 0 0 0)", "repeat 1 (point 0 0 0 )", "repeat 1 (point 0 0 0;)", "repeat 1 (;point 0 0 0)", "repeat 1 (point 0 0 0))", "repeat 1 ((point 0 0 0))", "repeat (point 0 0 0)", "repeat 1 2 (point 0 0 0)",
		"repeat 1 (point 0 0 0) ", "repeat 1 (point 0 0 0)point 0 0 0", "repeat 01 (point 0 0 0)", "repeat -1 (point 0 0 0)", "repeat 100000 (point 0 0 0)", "repeat 1 [point 0 0 0]", "repeat 1 (point 0 0)",
		"point 0 0 0)", "(point 0 0 0)", "point 0 0 0;x", "x;point 0 0 0", "point 0 0 0;)", "repeat 1 (repeat 1 (point 0 0 0)", "repeat 1 (repeat 1 ())",
		// Syntax comes before the errors of the program.
		"point 360 0 0;", "point 360 0 0;x", "sweep 0 0 0 0 0;point", "repeat 0 ()", "repeat 0 (point 0 0 0",
		strings.Repeat("point 0 0 0;", 11), strings.Repeat("repeat 1 (", 180) + "point 0 0 0",
	} {
		l, e := scan.ParseSteps(s)
		expectOnly(t, s, l, e, api.ErrSyntax)
	}
}

// P3.7
func TestParseStepsErrors(t *testing.T) {
	for _, x := range []struct {
		s    string
		want api.Errno
	}{
		{"point 360 0 0", api.ErrRange},
		{"point 0 91 0", api.ErrRange},
		{"point 0 0 1001", api.ErrRange},
		{"point 99999 99999 99999", api.ErrRange},
		{"sweep 0 360 1 0 0", api.ErrRange},
		{"sweep 0 0 0 0 0", api.ErrRange},
		{"sweep 0 0 361 0 0", api.ErrRange},
		{"repeat 0 (point 0 0 0)", api.ErrRange},
		{"repeat 11 (point 0 0 0)", api.ErrRange},
		{"repeat 1 (repeat 1 (point 360 0 0))", api.ErrRange},
		{"repeat 1 (repeat 1 (repeat 1 (point 0 0 0)))", api.ErrFull},
		{strings.Repeat("repeat 1 (", 180) + "point 0 0 0" + strings.Repeat(")", 180), api.ErrFull},
		{"point 0 0 0" + strings.Repeat(";point 0 0 0", 10), api.ErrLarge},
		{"repeat 1 (point 0 0 0" + strings.Repeat(";point 0 0 0", 10) + ")", api.ErrLarge},
		{"sweep 0 60 1 0 0", api.ErrLarge},
		{strings.Repeat("x", 2000), api.ErrSyntax},
		{strings.Repeat("x", 2001), api.ErrLarge},
		{strings.Repeat("(", 60001), api.ErrLarge},
		{"point 0 0 0" + strings.Repeat(" ", 1990), api.ErrLarge},
	} {
		l, e := scan.ParseSteps(x.s)
		expectOnly(t, x.s[:10], l, e, x.want)
	}
}

// P3.7
func TestParseLongestString(t *testing.T) {
	item := "repeat 1 (sweep 100 100 100 10 1000)"
	group := "repeat 1 (" + item + strings.Repeat(";"+item, 4) + ")"
	last := strings.TrimSuffix(group, ")") + ";point 0 0 0;point 0 0 0;point 100 10 "
	long := strings.Repeat(group+";", 9) + last
	s := long + "100)"
	l, e := scan.ParseSteps(s)
	if len(s) != api.MaxScanString || e != api.OK || len(l) != 10 || len(l[9].Body) != 8 || !reflect.DeepEqual(l[9].Body[7], point(100, 10, 100)) {
		t.Error(len(s), l, e)
	}
	l, e = scan.ParseSteps(long + "1000)")
	expectOnly(t, "a byte more", l, e, api.ErrLarge)
}

// P3.14
func TestParseReversesFormat(t *testing.T) {
	d := draws{17}
	for range 500 {
		l := d.program()
		if back, e := scan.ParseSteps(scan.FormatSteps(l)); e != api.OK || !reflect.DeepEqual(back, l) {
			t.Fatal(scan.FormatSteps(l), back, e)
		}
	}
}
