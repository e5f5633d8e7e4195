package wake_test

import (
	"math"
	"slices"
	"strconv"
	"strings"
	"testing"

	"glidepath/api"
	"glidepath/wake"
)

// P6.7, example 9
func TestFormatVortices(t *testing.T) {
	for _, c := range []struct {
		vortices []api.WakeVortex
		want     string
	}{
		{[]api.WakeVortex{vortex(0, 10, 10), vortex(2, 9, 8)}, "0 10 10;2 9 8"},
		{[]api.WakeVortex{vortex(-1000, 0, -10000)}, "-1000 0 -10000"},
		{nil, ""},
		// Whatever they are.
		{[]api.WakeVortex{vortex(math.MinInt, math.MinInt, math.MaxInt)}, "-9223372036854775808 -9223372036854775808 9223372036854775807"},
		{slices.Repeat([]api.WakeVortex{vortex(1, -2, 3)}, 5), "1 -2 3;1 -2 3;1 -2 3;1 -2 3;1 -2 3"},
	} {
		if got := wake.FormatVortices(c.vortices); got != c.want {
			t.Errorf("%v: %q, want %q", c.vortices, got, c.want)
		}
	}
}

// P6.7, example 9
func TestFormatBox(t *testing.T) {
	for _, c := range []struct {
		box  api.WakeBox
		want string
	}{
		{b(), "0 2 10 12 8 10"},
		{api.WakeBox{}, "0 0 0 0 0 0"},
		{box(ends(-1000000, 1), ends(2, 3), ends(4, 5)), "-1000000 1 2 3 4 5"},
		{box(ends(math.MaxInt, math.MinInt), ends(-2, -3), ends(-4, -5)), "9223372036854775807 -9223372036854775808 -2 -3 -4 -5"},
	} {
		if got := wake.FormatBox(c.box); got != c.want {
			t.Errorf("%v: %q, want %q", c.box, got, c.want)
		}
	}
}

// P6.7
func TestParseVortices(t *testing.T) {
	for _, c := range []struct {
		s    string
		want []api.WakeVortex
	}{
		{"0 10 10;2 9 8", []api.WakeVortex{vortex(0, 10, 10), vortex(2, 9, 8)}},
		{"", nil},
		{"-1000 0 -10000;1000 1000 10000;-1 1 -1", []api.WakeVortex{vortex(-1000, 0, -10000), vortex(1000, 1000, 10000), vortex(-1, 1, -1)}},
		{"0 0 0", []api.WakeVortex{{}}},
	} {
		if got, e := wake.ParseVortices(c.s); !same(got, c.want) || e != api.OK {
			t.Errorf("%q: %v, %d, want %v", c.s, got, e, c.want)
		}
	}
}

// P6.7
func TestParseVorticesErrors(t *testing.T) {
	rejected := map[api.Errno][]string{
		api.ErrSyntax: {
			" ", ";", "0", "0 0", "0 0 0 0", "0 0 0;", ";0 0 0", "0 0 0;;0 0 0", "0 0 0;0 0", "0 0 0 ", " 0 0 0", "0  0 0", "0 0  0", "0 0", "  ",
			"0,0,0", "0 0 0:0 0 0", "0 0 0\n", "0\t0 0", "a 0 0", "0 a 0", "0 0 a", "0x1 0 0", "1_0 0 0", "1. 0 0", "٣ 0 0", "0 0 0\x00",
			"+1 0 0", "0 +1 0", "0 0 +1", "-0 0 0", "0 -0 0", "0 0 -0", "00 0 0", "0 01 0", "0 0 -01", "- 0 0", "0 0 -", "--1 0 0", "1- 0 0",
			"0 -1 0", "0 -1000 0", "0 0 0;0 -1 0", "/ 0 0", ": 0 0", "0 0 1/", "0 0 1:", "1/ 0 0",
			"100000 0 0", "0 100000 0", "0 0 100000", "-100000 0 0", "0 0 -100000", "000001 0 0", "99999999999999999999 0 0",
			// Whether a string is malformed comes before what its vortices are.
			"99999 0 0;0 0", "0 0 0;0 0 0;0 0 0;0 0 0;0 0", "0 0 0;0 0 0;0 0 0;0 0 0;", "99999 -1 0",
			strings.Repeat("0", 60000),
		},
		api.ErrRange: {
			"1001 0 0", "-1001 0 0", "0 1001 0", "0 0 10001", "0 0 -10001", "99999 0 0", "-99999 0 0", "0 99999 0", "0 0 99999", "0 0 -99999", "0 0 0;1 1 1;1001 0 0",
		},
		api.ErrLarge: {
			"0 0 0;0 0 0;0 0 0;0 0 0", "1001 0 0;0 0 0;0 0 0;0 0 0", strings.Repeat("0 0 0;", 9999) + "0 0 0", strings.Repeat("0", 60001), strings.Repeat("0 0 0;", 10000) + "0 0 0",
		},
	}
	for want, l := range rejected {
		for _, s := range l {
			got, e := wake.ParseVortices(s)
			expectOnly(t, strconv.Quote(s[:min(len(s), 60)]), got, e, want)
		}
	}
}

// P6.7
func TestParseBox(t *testing.T) {
	for _, c := range []struct {
		s    string
		want api.WakeBox
	}{
		{"0 2 10 12 8 10", b()},
		{"0 0 0 0 0 0", api.WakeBox{}},
		{"-1000000 -1 0 1000000 0 10000", box(ends(-1000000, -1), ends(0, 1000000), ends(0, 10000))},
		{"1000000 1000000 1000000 1000000 10000 10000", box(ends(1000000, 1000000), ends(1000000, 1000000), ends(10000, 10000))},
	} {
		if got, e := wake.ParseBox(c.s); got != c.want || e != api.OK {
			t.Errorf("%q: %v, %d, want %v", c.s, got, e, c.want)
		}
	}
}

// P6.7
func TestParseBoxErrors(t *testing.T) {
	rejected := map[api.Errno][]string{
		api.ErrSyntax: {
			"", " ", "0", "0 0 0 0 0", "0 0 0 0 0 0 0", "0 0 0 0 0 ", " 0 0 0 0 0", "0 0 0 0 0 0 ", " 0 0 0 0 0 0", "0 0  0 0 0 0", "0 0 0 0 0 0;", "0 0 0;0 0 0",
			"0 0 -1 0 0 0", "0 0 0 -1 0 0", "0 0 0 0 -1 0", "0 0 0 0 0 -1", "0 0 -2 -1 0 0", "0 0 0 0 -2 -1", "0 0 -0 0 0 0", "-0 0 0 0 0 0", "0 -0 0 0 0 0",
			"a 0 0 0 0 0", "0 0 0 0 0 a", "+1 1 0 0 0 0", "01 1 0 0 0 0", "0 0 0 0 0 01", "- 0 0 0 0 0", "--1 0 0 0 0 0", "0 0 0 0 0 0\n",
			"10000000 0 0 0 0 0", "0 10000000 0 0 0 0", "-10000000 0 0 0 0 0", "0 0 0 10000000 0 0", "0 0 0 0 0 10000000", "99999999999999999999 0 0 0 0 0",
			"9999999 0 0 0 0", "9 0 0 0 0 -1", "9999999 0 0 0 0 -1", strings.Repeat("0", 60000), "/ 0 0 0 0 0", "0 0 0 0 0 :",
		},
		api.ErrRange: {
			"-1000001 0 0 0 0 0", "0 1000001 0 0 0 0", "-9999999 9999999 0 0 0 0", "0 0 0 1000001 0 0", "0 0 9999999 0 0 0", "0 0 0 0 0 10001", "0 0 0 0 9999999 0", "1 0 0 0 0 10001", "5 4 0 9999999 0 0",
		},
		api.ErrOrder: {"1 0 0 0 0 0", "0 -1 0 0 0 0", "-1 -2 0 0 0 0", "0 0 1 0 0 0", "0 0 0 0 1 0", "0 0 1000000 999999 0 0"},
		api.ErrLarge: {strings.Repeat("0", 60001), strings.Repeat("0 ", 30001), "0 0 0 0 0 0" + strings.Repeat(" ", 60000)},
	}
	for want, l := range rejected {
		for _, s := range l {
			got, e := wake.ParseBox(s)
			expectOnly(t, strconv.Quote(s[:min(len(s), 60)]), got, e, want)
		}
	}
}

// P6.14
func TestStringsReverse(t *testing.T) {
	draw := &draws{78}
	for i := range 1000 {
		most := []int{3, 1000}[i%2]
		l := draw.scan(most, 10*most)
		s := wake.FormatVortices(l)
		if got, e := wake.ParseVortices(s); !same(got, l) || e != api.OK {
			t.Fatalf("%v: %v, %d", l, got, e)
		}
		size := []int{3, 10000}[i%2]
		x := draw.box(100*size, 100*size, size, size)
		if got, e := wake.ParseBox(wake.FormatBox(x)); got != x || e != api.OK {
			t.Fatalf("%v: %v, %d", x, got, e)
		}
	}
	for _, x := range goodBoxes() {
		if got, e := wake.ParseBox(wake.FormatBox(x)); got != x || e != api.OK {
			t.Fatalf("%v: %v, %d", x, got, e)
		}
	}
	// What is not valid is not read.
	for _, x := range badBoxes() {
		got, e := wake.ParseBox(wake.FormatBox(x.value))
		if e == api.OK || got != (api.WakeBox{}) {
			t.Errorf("%v: %v, %d", x.value, got, e)
		}
	}
}

// R3, R4
func TestVorticesMemory(t *testing.T) {
	l := []api.WakeVortex{vortex(0, 10, 10), vortex(2, 9, 8)}
	kept := slices.Clone(l)
	s := wake.FormatVortices(l)
	first, _ := wake.ParseVortices(s)
	first[0] = vortex(7, 7, 7)
	if second, _ := wake.ParseVortices(s); !same(second, kept) || !same(l, kept) || wake.FormatVortices(l) != s {
		t.Errorf("%v, %v, want %v", second, l, kept)
	}
}
