package spacing_test

import (
	"math"
	"reflect"
	"slices"
	"strconv"
	"strings"
	"testing"

	"glidepath/api"
	"glidepath/spacing"
)

// P7.7, example 10
func TestFormatRule(t *testing.T) {
	for _, c := range []struct {
		rule api.SpacingRule
		want string
	}{
		{r(), "90 120;60 60/60 80;60 60"},
		{single(600).Rule, "600/600"},
		// Whatever they are.
		{api.SpacingRule{}, "/"},
		{api.SpacingRule{Seconds: [][]int{{1}, nil, {-2, 3}}, Free: [][]int{nil, {math.MinInt}}}, "1;;-2 3/;-9223372036854775808"},
		{api.SpacingRule{Free: [][]int{{math.MaxInt, 0}}}, "/9223372036854775807 0"},
	} {
		if got := spacing.FormatRule(c.rule); got != c.want {
			t.Errorf("%v: %q, want %q", c.rule, got, c.want)
		}
	}
}

// P7.7, example 10
func TestFormatArrivals(t *testing.T) {
	for _, c := range []struct {
		arrivals []api.SpacingArrival
		want     string
	}{
		{p().Arrivals, "a 0 0 1000 1;b 1 10 1000 1;c 0 20 1000 2"},
		{nil, ""},
		{[]api.SpacingArrival{arrival("AB-9", 3, 1, 100000, 100)}, "AB-9 3 1 100000 100"},
		// Whatever they are.
		{[]api.SpacingArrival{{}, arrival("; ", -1, math.MinInt, math.MaxInt, -2)}, " 0 0 0 0;;  -1 -9223372036854775808 9223372036854775807 -2"},
		{slices.Repeat([]api.SpacingArrival{arrival("a", 1, 2, 3, 4)}, 8), strings.Repeat("a 1 2 3 4;", 7) + "a 1 2 3 4"},
	} {
		if got := spacing.FormatArrivals(c.arrivals); got != c.want {
			t.Errorf("%v: %q, want %q", c.arrivals, got, c.want)
		}
	}
}

// P7.7, example 10
func TestFormatPlan(t *testing.T) {
	for _, c := range []struct {
		plan []api.SpacingSlot
		want string
	}{
		{slots(1, 10, 2, 70, 0, 160), "1 10;2 70;0 160"},
		{nil, ""},
		{slots(0, 0), "0 0"},
		{slots(-1, math.MinInt, math.MaxInt, -5), "-1 -9223372036854775808;9223372036854775807 -5"},
	} {
		if got := spacing.FormatPlan(c.plan); got != c.want {
			t.Errorf("%v: %q, want %q", c.plan, got, c.want)
		}
	}
}

// P7.7
func TestParseRule(t *testing.T) {
	for _, c := range []struct {
		s    string
		want api.SpacingRule
	}{
		{"90 120;60 60/60 80;60 60", r()},
		{"0/0", single(0).Rule},
		{"600/600", single(600).Rule},
		{"1 2 3;4 5 6;7 8 9/0 1 2;3 4 5;6 7 8", api.SpacingRule{Seconds: [][]int{{1, 2, 3}, {4, 5, 6}, {7, 8, 9}}, Free: [][]int{{0, 1, 2}, {3, 4, 5}, {6, 7, 8}}}},
	} {
		if got, e := spacing.ParseRule(c.s); !reflect.DeepEqual(got, c.want) || e != api.OK {
			t.Errorf("%q: %v, %d, want %v", c.s, got, e, c.want)
		}
	}
}

// P7.7
func TestParseRuleErrors(t *testing.T) {
	rejected := map[api.Errno][]string{
		api.ErrSyntax: {
			"", "/", " ", "1", "1/", "/1", "1/1/1", "1/1/", "/1/1", "1//1", "1 /1", " 1/1", "1/ 1", "1/1 ", "1;/1", "1/;1", "1/1;", ";1/1", "1 1;;1 1/1 1;1 1", "1  1;1 1/1 1;1 1",
			"1 2;3 4", "1 2;3 4;1 2;3 4", "1 2;3 4 1 2;3 4", "1\\1", "1:1", "1,1;1,1/1,1;1,1",
			"-1/1", "1/-1", "+1/1", "1/+1", "-0/0", "0/-0", "00/0", "0/00", "01/1", "1/01", "a/1", "1/a", "0x1/1", "1_0/1", "1./1", "1/1\n", "1\t1;1 1/1 1;1 1", "٣/1", "1/1\x00", "//", "1/:", "--1/1", "1/1-",
			"10000/1", "1/10000", "00001/1", "99999/99999", "99999999999999999999/1", "1 1;1 10000/1 1;1 1",
			// Whether a string is malformed comes before what its rule is.
			"9999/-1", "1 2/a", "1 2;3/1 2;03 4", "9999/1/1", strings.Repeat("1", 60000), strings.Repeat("1 ", 30000),
		},
		api.ErrShape: {
			"1 2/1 2", "1;2/1;2", "1/1;1", "1;1/1", "1 2;3 4/1 2", "1 2;3/1 2;3 4", "1 2;3 4/1 2;3", "1 2;3 4/1 2;3 4 5", "9999 2;3/1 2", "1 1 1 1 1/1;1",
			strings.Repeat("1 ", 29998) + "1/1", "1/1" + strings.Repeat(";1", 29998),
		},
		api.ErrLarge: {
			"1;1;1;1;1/1;1;1;1;1", "9999;1;1;1;1/1;1;1;1;1", strings.Repeat("1;", 14999) + "1/1" + strings.Repeat(";1", 14999),
			strings.Repeat("1", 60001), strings.Repeat("-", 60001), strings.Repeat("1/1", 20001),
		},
		api.ErrRange: {"601/1", "9999/1", "1/2", "1/9999", "9999/9999", "601/601", "0/1", "1 2;3 4/1 2;3 5", "1 2;3 601/1 2;3 4", "1 2;3 4/2 2;3 4", "1 601;3/1 2;3 4"},
	}
	for want, l := range rejected {
		for _, s := range l {
			got, e := spacing.ParseRule(s)
			expectOnly(t, strconv.Quote(s[:min(len(s), 60)]), got, e, want)
		}
	}
}

// P7.7
func TestParseArrivals(t *testing.T) {
	for _, c := range []struct {
		s    string
		want []api.SpacingArrival
	}{
		{"a 0 0 1000 1;b 1 10 1000 1;c 0 20 1000 2", p().Arrivals},
		{"", nil},
		{"A-9 3 100000 100000 100", []api.SpacingArrival{arrival("A-9", 3, 100000, 100000, 100)}},
		{"abcdefghijkl 0 0 0 0", []api.SpacingArrival{arrival("abcdefghijkl", 0, 0, 0, 0)}},
		{"a 0 0 0 0;b 0 0 0 0;c 0 0 0 0;d 0 0 0 0;e 0 0 0 0;f 0 0 0 0", []api.SpacingArrival{
			arrival("a", 0, 0, 0, 0), arrival("b", 0, 0, 0, 0), arrival("c", 0, 0, 0, 0), arrival("d", 0, 0, 0, 0), arrival("e", 0, 0, 0, 0), arrival("f", 0, 0, 0, 0),
		}},
	} {
		if got, e := spacing.ParseArrivals(c.s); !same(got, c.want) || e != api.OK {
			t.Errorf("%q: %v, %d, want %v", c.s, got, e, c.want)
		}
	}
}

// P7.7
func TestParseArrivalsErrors(t *testing.T) {
	seven := "a 0 0 0 0;b 0 0 0 0;c 0 0 0 0;d 0 0 0 0;e 0 0 0 0;f 0 0 0 0;g 0 0 0 0"
	rejected := map[api.Errno][]string{
		api.ErrSyntax: {
			" ", ";", "a", "a 0 0 0", "a 0 0 0 0 0", "a 0 0 0 0;", ";a 0 0 0 0", "a 0 0 0 0;;b 0 0 0 0", "a 0 0 0 0;b", "a 0 0 0 0 ", " a 0 0 0 0", "a  0 0 0 0", "a 0  0 0", " 0 0 0 0", "    ", "a 0 0 0 ", "a 0 0  0", "\n0 0 0 0",
			"a -1 0 0 0", "a 0 -1 0 0", "a 0 0 -1 0", "a 0 0 0 -1", "a +1 0 0 0", "a 0 +1 0 0", "a -0 0 0 0", "a 0 0 0 -0", "a 00 0 0 0", "a 0 01 2 0", "a 0 0 0 01", "a 0 0 0 x", "a b 0 0 0", "a 0 0 0 0\n", "a 0 0 0 /", "a 0 0 0 :", "a 0x1 0 0 0", "a 0 1_0 20 0",
			"a 1000000 0 0 0", "a 0 1000000 0 0", "a 0 0 1000000 0", "a 0 0 0 1000000", "a 0 0000001 1 0", "a 0 0 99999999999999999999 0",
			// Whether a string is malformed comes before what its arrivals are.
			"1 0 0 0 0;b", "a 9 0 0 0;b 0 0 0", seven + ";", "a 0 0 0 0;a 0 0 0 -1", strings.Repeat("a", 60000),
		},
		api.ErrName:   {"1 0 0 0 0", "- 0 0 0 0", "a_ 0 0 0 0", "abcdefghijklm 0 0 0 0", "a 0 0 0 0;é 0 0 0 0", "1 9 5 4 999", "a/ 0 0 0 0", "a\n 0 0 0 0", strings.Repeat("a", 59992) + " 0 0 0 0"},
		api.ErrExists: {"a 0 0 0 0;a 0 0 0 0", "a 0 0 0 0;b 0 0 0 0;a 9 5 4 999"},
		api.ErrRange:  {"a 4 0 0 0", "a 999999 0 0 0", "a 0 100001 100001 0", "a 0 0 100001 0", "a 0 0 0 101", "a 0 999999 0 0", "a 3 1 0 101", "a 0 0 0 0;b 0 0 0 101"},
		api.ErrOrder:  {"a 0 1 0 0", "a 0 100000 99999 0", "a 0 1 0 0;a 0 0 0 0"},
		api.ErrLarge:  {seven, seven + ";" + seven, "1 0 0 0 0;" + seven, strings.Repeat("a 0 0 0 0;", 5999) + "a 0 0 0 0", strings.Repeat("a", 60001), strings.Repeat("a 0 0 0 0;", 6000) + "a", strings.Repeat("a", 59993) + " 0 0 0 0"},
	}
	for want, l := range rejected {
		for _, s := range l {
			got, e := spacing.ParseArrivals(s)
			expectOnly(t, strconv.Quote(s[:min(len(s), 60)]), got, e, want)
		}
	}
}

// P7.7
func TestParsePlan(t *testing.T) {
	long := slices.Repeat(slots(1, 2), 15000)
	for _, c := range []struct {
		s    string
		want []api.SpacingSlot
	}{
		{"1 10;2 70;0 160", slots(1, 10, 2, 70, 0, 160)},
		{"", nil},
		{"0 0", slots(0, 0)},
		// They need not fit any problem.
		{"999999 999999", slots(999999, 999999)},
		{"7 5;7 5;7 4", slots(7, 5, 7, 5, 7, 4)},
		{strings.Repeat("1 2;", 14999) + "1 2", long},
		{strings.Repeat("1 2;", 14999) + "1 12", append(long[:14999:14999], slot(1, 12))},
	} {
		if got, e := spacing.ParsePlan(c.s); !same(got, c.want) || e != api.OK {
			t.Errorf("%q: %v, %d, want %v", c.s[:min(len(c.s), 60)], got[:min(len(got), 9)], e, c.want[:min(len(c.want), 9)])
		}
	}
}

// P7.7
func TestParsePlanErrors(t *testing.T) {
	rejected := map[api.Errno][]string{
		api.ErrSyntax: {
			" ", ";", "0", "0 0 0", "0 0;", ";0 0", "0 0;;0 0", "0 0;0", "0 0 ", " 0 0", "0  0", "0 ", " 0", "0,0", "0 0:0 0", "0 0\n", "0\t0", "a 0", "0 a", "0x1 0", "1_0 0", "1. 0", "٣ 0", "0 0\x00", "/ 0", "0 :",
			"-1 0", "0 -1", "+1 0", "0 +1", "-0 0", "0 -0", "00 0", "0 00", "01 0", "0 01", "1- 0", "1000000 0", "0 1000000", "000001 0", "0 0000000", "0 99999999999999999999", "0 0;0 -1",
			strings.Repeat("0", 60000), strings.Repeat("1 2;", 15000),
		},
		api.ErrLarge: {strings.Repeat("0", 60001), strings.Repeat("1 2;", 15000) + "1 2", strings.Repeat("1 2;", 14999) + "1 2345", strings.Repeat("-", 60001)},
	}
	for want, l := range rejected {
		for _, s := range l {
			got, e := spacing.ParsePlan(s)
			expectOnly(t, strconv.Quote(s[:min(len(s), 60)]), got, e, want)
		}
	}
}

// P7.15
func TestStringsReverse(t *testing.T) {
	draw := &draws{97}
	for _, x := range problems(98, 500) {
		for i := range x.Arrivals {
			a := &x.Arrivals[i]
			a.Name += []string{"", "-", "Z9-zA0", "bcdefghijkl"}[draw.from(0, 3)]
			if draw.from(0, 2) == 0 {
				a.Category, a.Earliest, a.Latest, a.Cost = 3, draw.from(0, 100000), 100000, 100
			}
		}
		s := spacing.FormatRule(x.Rule)
		if got, e := spacing.ParseRule(s); !reflect.DeepEqual(got, x.Rule) || e != api.OK || spacing.FormatRule(got) != s {
			t.Fatalf("%v: %v, %d", x.Rule, got, e)
		}
		s = spacing.FormatArrivals(x.Arrivals)
		if got, e := spacing.ParseArrivals(s); !same(got, x.Arrivals) || e != api.OK || spacing.FormatArrivals(got) != s {
			t.Fatalf("%v: %v, %d", x.Arrivals, got, e)
		}
		var plan []api.SpacingSlot
		for range draw.from(0, 7) {
			plan = append(plan, slot(draw.from(0, 6), draw.from(0, 100000)))
		}
		s = spacing.FormatPlan(plan)
		if got, e := spacing.ParsePlan(s); !same(got, plan) || e != api.OK || spacing.FormatPlan(got) != s {
			t.Fatalf("%v: %v, %d", plan, got, e)
		}
	}
	// What is not valid is not read.
	for _, x := range badRules() {
		got, e := spacing.ParseRule(spacing.FormatRule(x.value))
		if e == api.OK || !reflect.DeepEqual(got, api.SpacingRule{}) {
			t.Errorf("%v: %v, %d", x.value, got, e)
		}
	}
	for _, x := range badArrivals() {
		got, e := spacing.ParseArrivals(spacing.FormatArrivals(x.value))
		if e == api.OK || len(got) != 0 {
			t.Errorf("%v: %v, %d", x.value, got, e)
		}
	}
}

// R3, R4
func TestStringsMemory(t *testing.T) {
	s := "90 120;60 60/60 80;60 60"
	first, _ := spacing.ParseRule(s)
	first.Seconds[0][1], first.Seconds[1], first.Free[0] = 7, nil, append(first.Free[0], 9)
	if second, e := spacing.ParseRule(s); !reflect.DeepEqual(second, r()) || e != api.OK {
		t.Errorf("%v, %d", second, e)
	}
	l, _ := spacing.ParseArrivals("a 0 0 1000 1")
	l[0].Name = "x"
	if again, _ := spacing.ParseArrivals("a 0 0 1000 1"); !same(again, p().Arrivals[:1]) {
		t.Errorf("%v", again)
	}
	plan, _ := spacing.ParsePlan("1 10")
	plan[0].Time = 9
	if again, _ := spacing.ParsePlan("1 10"); !same(again, slots(1, 10)) {
		t.Errorf("%v", again)
	}
	// The rows of a rule share no memory, not even beyond their ends.
	x, _ := spacing.ParseRule("1 2;3 4/1 2;3 4")
	_ = append(x.Seconds[0], 9, 9, 9)
	_ = append(x.Free[0], 9, 9, 9)
	if spacing.FormatRule(x) != "1 2;3 4/1 2;3 4" {
		t.Errorf("%v", x)
	}
}
