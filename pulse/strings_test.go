package pulse_test

import (
	"math"
	"reflect"
	"strings"
	"testing"

	"glidepath/api"
	"glidepath/pulse"
)

// P1.7
func TestFormatBlock(t *testing.T) {
	for _, x := range []struct {
		block []api.Gauss
		want  string
	}{
		{three(), "1 0;0 1;2 0"},
		{[]api.Gauss{{Re: -1000, Im: -7}}, "-1000 -7"},
		{nil, ""},
		{re(12345, 0), "12345 0;0 0"},
		{[]api.Gauss{{Re: math.MinInt, Im: math.MaxInt}}, "-9223372036854775808 9223372036854775807"},
	} {
		if s := pulse.FormatBlock(x.block); s != x.want {
			t.Error(s, x.want)
		}
	}
}

// P1.7
func TestParseBlock(t *testing.T) {
	for _, x := range []struct {
		s    string
		want []api.Gauss
	}{
		{"1 0;0 1;2 0", three()},
		{"-1000 1000", []api.Gauss{{Re: -1000, Im: 1000}}},
		{"0 -9", []api.Gauss{{Im: -9}}},
		{strings.Repeat("0 0;", 47) + "0 0", make([]api.Gauss, 48)},
	} {
		if l, e := pulse.ParseBlock(x.s); e != api.OK || !same(l, x.want) {
			t.Error(x.s, l, e)
		}
	}
	for _, s := range []string{
		"", " ", ";", "1", "1 ", " 1", "1  2", "1 2 3", "1 2;", ";1 2", "1 2;;3 4", "1 2; 3 4", "1 2 ;3 4",
		"1 0;0 1;2", "1 -0", "-0 1", "00 1", "01 1", "1 -01", "10000 1", "1 -10000", "+1 1", "1 +1", "-- 1", "--1 1",
		"- 1", "1 -", "1 a", "1 1a", "a1 1", "1,1", "1\t2", "1 2\n", "1.0 2", "１ 2", "1 2\x00", "9999 9999;x",
		"/ 1", ": 1", "1 0x1", "1_0 1", "9223372036854775808 1", strings.Repeat("0 0;", 60) + "0",
	} {
		l, e := pulse.ParseBlock(s)
		expectOnly(t, s, l, e, api.ErrSyntax)
	}
	for _, x := range []struct {
		s    string
		want api.Errno
	}{
		{"1001 0", api.ErrRange},
		{"0 0;0 -1001", api.ErrRange},
		{"9999 0", api.ErrRange},
		{"-9999 0", api.ErrRange},
		{strings.Repeat("9999 0;", 48) + "0 0", api.ErrLarge},
		{strings.Repeat("0 0;", 14999) + "10 0", api.ErrLarge},
		{strings.Repeat("0", 60000), api.ErrSyntax},
		{strings.Repeat("0", 60001), api.ErrLarge},
	} {
		l, e := pulse.ParseBlock(x.s)
		expectOnly(t, x.s[:6], l, e, x.want)
	}
}

// P1.7
func TestFormatGates(t *testing.T) {
	for _, x := range []struct {
		gates api.PulseGates
		want  string
	}{
		{gates(1, 2, 3, 1, 2), "1 2 3 1 2"},
		{api.PulseGates{}, "0 0 0"},
		{gates(-1, 49, 1000, -7), "-1 49 1000 -7"},
		{gates(math.MinInt, math.MaxInt, 0), "-9223372036854775808 9223372036854775807 0"},
	} {
		if s := pulse.FormatGates(x.gates); s != x.want {
			t.Error(s, x.want)
		}
	}
}

// P1.7
func TestParseGates(t *testing.T) {
	for _, x := range []struct {
		s    string
		want api.PulseGates
	}{
		{"1 2 3 1 2", gates(1, 2, 3, 1, 2)},
		{"48 48 20 100", gates(48, 48, 20, 100)},
		{"0 1 1" + strings.Repeat(" 0", 16), gates(0, 1, 1, make([]int, 16)...)},
	} {
		if g, e := pulse.ParseGates(x.s); e != api.OK || !reflect.DeepEqual(g, x.want) {
			t.Error(x.s, g, e)
		}
	}
	for _, s := range []string{
		"", " ", "1", "1 2", "1 2 ", "1 2 3 ", " 1 2 3 4", "1  2 3 4", "1 2 3  4", "1 2 3 -4", "-1 2 3 4", "1 2 3 -0",
		"1 2 3 04", "00 1 1 1", "1 2 3 1000", "1000 2 3 4", "1 2 3 +4", "1 2 3 a", "1 2 3;4", "1 2 3 4\n", "1\t2 3 4", "1 2 3 4a",
	} {
		g, e := pulse.ParseGates(s)
		expectOnly(t, s, g, e, api.ErrSyntax)
	}
	for _, x := range []struct {
		s    string
		want api.Errno
	}{
		{"1 2 3", api.ErrShape},
		{"999 2 3", api.ErrRange},
		{"0 0 1 1", api.ErrRange},
		{"0 1 21 1", api.ErrRange},
		{"0 1 1 101", api.ErrRange},
		{"0 1 1" + strings.Repeat(" 0", 17), api.ErrLarge},
		{"0 1 1" + strings.Repeat(" 0", 29997), api.ErrLarge},
		{strings.Repeat("x", 60000), api.ErrSyntax},
		{strings.Repeat("x", 60001), api.ErrLarge},
	} {
		g, e := pulse.ParseGates(x.s)
		expectOnly(t, x.s[:5], g, e, x.want)
	}
}

// P1.15
func TestParseReversesFormat(t *testing.T) {
	n := numbers{15}
	for range 300 {
		block := n.block(n.from(1, 48), 1000)
		if l, e := pulse.ParseBlock(pulse.FormatBlock(block)); e != api.OK || !same(l, block) {
			t.Fatal(block, l, e)
		}
		g := n.gates()
		for range n.from(0, 10) {
			g.Weights = append(g.Weights, n.from(0, 100))
		}
		if got, e := pulse.ParseGates(pulse.FormatGates(g)); e != api.OK || !reflect.DeepEqual(got, g) {
			t.Fatal(g, got, e)
		}
	}
}
