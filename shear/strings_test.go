package shear_test

import (
	"math"
	"slices"
	"strings"
	"testing"

	"glidepath/api"
	"glidepath/shear"
)

// P5.6
func TestFormat(t *testing.T) {
	for _, x := range []struct {
		gates []api.ShearGate
		want  string
	}{
		{p(), "0 900 1000;500 800 850;1500 200 300"},
		{nil, ""},
		{[]api.ShearGate{}, ""},
		{[]api.ShearGate{gate(50000, -10000, 10000)}, "50000 -10000 10000"},
		{[]api.ShearGate{{}, gate(-5, math.MaxInt, math.MinInt)}, "0 0 0;-5 9223372036854775807 -9223372036854775808"},
	} {
		if s := shear.FormatProfile(x.gates); s != x.want {
			t.Error(s, x.want)
		}
	}
	for _, x := range []struct {
		rule api.ShearRule
		want string
	}{
		{r(), "500 300 20 60"},
		{api.ShearRule{}, "0 0 0 0"},
		{rule(-1, math.MinInt, math.MaxInt, 100000), "-1 -9223372036854775808 9223372036854775807 100000"},
	} {
		if s := shear.FormatRule(x.rule); s != x.want {
			t.Error(s, x.want)
		}
	}
}

// twenty is a profile with as many gates as there may be.
func twenty() []api.ShearGate {
	l := make([]api.ShearGate, 20)
	for i := range l {
		l[i] = gate(i, -i, i)
	}
	return l
}

// P5.6
func TestParseProfile(t *testing.T) {
	for _, x := range []struct {
		s    string
		want []api.ShearGate
	}{
		{"0 900 1000;500 800 850;1500 200 300", p()},
		{"", nil},
		{"50000 -10000 10000", []api.ShearGate{gate(50000, -10000, 10000)}},
		{"0 -1 -1;1 0 0", []api.ShearGate{gate(0, -1, -1), gate(1, 0, 0)}},
		{shear.FormatProfile(twenty()), twenty()},
	} {
		if l, e := shear.ParseProfile(x.s); e != api.OK || !same(l, x.want) {
			t.Error(x.s, l, e)
		}
	}
	for _, s := range []string{
		" ", ";", "0", "0 1", "0 1 2 3", "0 1 2;", ";0 1 2", "0 1 2;;3 1 2", "0 1 2; 3 1 2", "0 1 2 ;3 1 2", " 0 1 2", "0 1 2 ", "0  1 2", "0 1  2", "0  2", "0 1 ", " 1 2", "  ",
		"0 1 2;3 1", "0 1 2;3 1 2 4", "0 1 2,3 1 2", "0 1 2\n", "0\t1 2", "00 1 2", "01 1 2", "0 01 2", "0 1 02", "0 -0 2", "0 -01 2", "0 -2 -0", "+0 1 2", "0 +1 2", "0 --1 2", "0 - 2",
		"0 1 -", "- 1 2", "-0 1 2", "-1 1 2", "0 1 2;-1 1 2", "0 1 2;-3 1 2", "0 1 x", "x 1 2", "0 1x 2", "0 1.0 2", "0 0x1 2", "0 1e1 20", "0 1_0 20", "0 1 1000000", "0 -1000000 1", "0000000 1 2",
		"1000000 1 2", "0 1 \xd9\xa1", "0 1 99999999999999999999", "0 1 2;x", "0 1- 2", "0 1 2-",
	} {
		l, e := shear.ParseProfile(s)
		expectOnly(t, s, l, e, api.ErrSyntax)
	}
	for _, x := range []struct {
		s    string
		want api.Errno
	}{
		{"50001 1 2", api.ErrRange},
		{"999999 1 2", api.ErrRange},
		{"0 1 10001", api.ErrRange},
		{"0 -10001 1", api.ErrRange},
		{"0 -999999 999999", api.ErrRange},
		{"0 2 1", api.ErrOrder},
		{"0 -1 -2", api.ErrOrder},
		{"5 1 2;5 1 2", api.ErrOrder},
		{"5 1 2;4 1 2", api.ErrOrder},
		{"5 1 2;4 2 1;50001 1 2", api.ErrOrder},
		{"50001 1 2;x", api.ErrSyntax},
		{shear.FormatProfile(append(twenty(), gate(20, 0, 0))), api.ErrLarge},
		{shear.FormatProfile(append(twenty(), gate(20, 0, 0))) + ";", api.ErrSyntax},
		{"50001 2 1" + strings.Repeat(";0 1 2", 20), api.ErrLarge},
		{"0 1 2" + strings.Repeat(";0 1 2", 9999), api.ErrLarge},
		{strings.Repeat("x", 60000), api.ErrSyntax},
		{strings.Repeat(";", 60000), api.ErrSyntax},
		{strings.Repeat("x", 60001), api.ErrLarge},
		{strings.Repeat(";", 60001), api.ErrLarge},
	} {
		l, e := shear.ParseProfile(x.s)
		expectOnly(t, x.s[:3], l, e, x.want)
	}
}

// P5.6
func TestParseRule(t *testing.T) {
	for _, x := range []struct {
		s    string
		want api.ShearRule
	}{
		{"500 300 20 60", r()},
		{"1 0 0 1", rule(1, 0, 0, 1)},
		{"20000 20000 100000 100000", rule(20000, 20000, 100000, 100000)},
	} {
		if got, e := shear.ParseRule(x.s); e != api.OK || got != x.want {
			t.Error(x.s, got, e)
		}
	}
	for _, s := range []string{
		"", " ", "500", "500 300 20", "500 300 20 60 1", "500 300 20 ", " 500 300 20", "500  20 60", "500 300 20 60 ", " 500 300 20 60", "500  300 20 60", "500,300,20,60", "500 300 20;60",
		"500 300 20 60\n", "500 300\t20 60", "0500 300 20 60", "500 00 20 60", "500 300 020 60", "500 300 20 060", "-500 300 20 60", "500 -300 20 60", "500 -1 20 60", "500 300 -20 60",
		"500 300 20 -60", "500 -0 20 60", "500 300 20 -", "+500 300 20 60", "500 300 20 60-", "500 300 20 x", "500 300 20 60x", "500 300.0 20 60", "500 1e2 20 60", "0x5 0 20 60", "500 300 20 1000000",
		"1000000 300 20 60", "500 0000000 20 60", "500 300 20 \xd9\xa1", "500 300 20 99999999999999999999", "   ", strings.Repeat("1", 60001), strings.Repeat(" ", 60001),
		"500 300 20 60;500 300 20 60",
	} {
		got, e := shear.ParseRule(s)
		expectOnly(t, s, got, e, api.ErrSyntax)
	}
	for _, x := range []struct {
		s    string
		want api.Errno
	}{
		{"0 0 0 1", api.ErrRange},
		{"20001 0 0 1", api.ErrRange},
		{"999999 0 0 1", api.ErrRange},
		{"500 20001 20 60", api.ErrRange},
		{"500 300 100001 60", api.ErrRange},
		{"500 300 20 0", api.ErrRange},
		{"500 300 20 100001", api.ErrRange},
		{"300 500 20 0", api.ErrRange},
		{"300 500 20 60", api.ErrOrder},
		{"300 301 20 60", api.ErrOrder},
	} {
		got, e := shear.ParseRule(x.s)
		expectOnly(t, x.s, got, e, x.want)
	}
}

// P5.13
func TestParseReversesFormat(t *testing.T) {
	d := draws{513}
	for range 300 {
		l := d.profile(d.from(0, 20), 2300, 10000, 20000)
		s := shear.FormatProfile(l)
		back, e := shear.ParseProfile(s)
		if e != api.OK || !same(back, l) {
			t.Fatal(l, back, e)
		}
		clear(back)
		if again, _ := shear.ParseProfile(s); !same(again, slices.Clone(l)) {
			t.Fatal(l, again)
		}
		rule := d.rule(20000, 100000, 100000)
		if back, e := shear.ParseRule(shear.FormatRule(rule)); e != api.OK || back != rule {
			t.Fatal(rule, back, e)
		}
	}
}
