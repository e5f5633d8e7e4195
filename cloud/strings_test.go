package cloud_test

import (
	"math"
	"slices"
	"strconv"
	"strings"
	"testing"

	"glidepath/api"
	"glidepath/cloud"
)

// P8.8, example 10
func TestFormatProfile(t *testing.T) {
	for _, c := range []struct {
		profile []int
		want    string
	}{
		{one(), "10 0 45 45"}, {[]int{0}, "0"}, {[]int{10000}, "10000"},
		// Whatever they are.
		{nil, ""}, {[]int{-1, math.MinInt, math.MaxInt}, "-1 -9223372036854775808 9223372036854775807"}, {make([]int, 30), strings.Repeat("0 ", 29) + "0"},
	} {
		if got := cloud.FormatProfile(c.profile); got != c.want {
			t.Errorf("%v: %q, want %q", c.profile, got, c.want)
		}
	}
}

// P8.8, example 10
func TestFormatLayers(t *testing.T) {
	for _, c := range []struct {
		layers []api.CloudLayer
		want   string
	}{
		{eight(), "500 800 3;300 400 2;900 1000 4"}, {nil, ""}, {[]api.CloudLayer{layer(0, 20000, 8)}, "0 20000 8"},
		// Whatever they are.
		{[]api.CloudLayer{{}, layer(-1, math.MinInt, math.MaxInt)}, "0 0 0;-1 -9223372036854775808 9223372036854775807"}, {make([]api.CloudLayer, 12), strings.Repeat("0 0 0;", 11) + "0 0 0"},
	} {
		if got := cloud.FormatLayers(c.layers); got != c.want {
			t.Errorf("%v: %q, want %q", c.layers, got, c.want)
		}
	}
}

// P8.8
func TestParseProfile(t *testing.T) {
	for _, c := range []struct {
		s    string
		want []int
	}{
		{"10 0 45 45", one()}, {"0", []int{0}}, {"10000", []int{10000}}, {"9 99 999 9999", []int{9, 99, 999, 9999}}, {strings.Repeat("10000 ", 23) + "1", append(slices.Repeat([]int{10000}, 23), 1)},
	} {
		if got, e := cloud.ParseProfile(c.s); !same(got, c.want) || e != api.OK {
			t.Errorf("%q: %v, %d, want %v", c.s, got, e, c.want)
		}
	}
}

// P8.8
func TestParseProfileErrors(t *testing.T) {
	rejected := map[api.Errno][]string{
		api.ErrSyntax: {
			"", " ", "  ", " 1", "1 ", "1  2", "1 2 ", ";", "1;2", "1,2", "1\t2", "1\n", "\n1", "a", "1 a", "1a", "a1", "0x1", "1_0", "1.", "1.0", "1e2", "٣", "1\x00", "/", ":", "1/", "1:",
			"-1", "+1", "-0", "+0", "1 -1", "1-", "--1", "00", "01", "1 01", "000", "00000", "00001", "100000", "000001", "99999999999999999999", "1 100000",
			// Whether a string is malformed comes before what its profile is.
			"99999 -1", strings.Repeat("1 ", 25), strings.Repeat("1 ", 30000), strings.Repeat("1", 60000), strings.Repeat(" ", 60000),
		},
		api.ErrLarge: {
			strings.Repeat("1 ", 24) + "1", strings.Repeat("99999 ", 24) + "1", strings.Repeat("1 ", 29999) + "1", strings.Repeat("1 ", 29999) + "12",
			strings.Repeat("1", 60001), strings.Repeat("1 ", 30000) + "1", strings.Repeat("-", 60001), strings.Repeat(" ", 60001),
		},
		api.ErrRange: {"10001", "99999", "1 2 10001", "10000 10001", strings.Repeat("1 ", 23) + "10001"},
	}
	for want, l := range rejected {
		for _, s := range l {
			got, e := cloud.ParseProfile(s)
			expectOnly(t, strconv.Quote(s[:min(len(s), 60)]), got, e, want)
		}
	}
}

// P8.8
func TestParseLayers(t *testing.T) {
	for _, c := range []struct {
		s    string
		want []api.CloudLayer
	}{
		{"500 800 3;300 400 2;900 1000 4", eight()}, {"", nil}, {"0 1 0", []api.CloudLayer{layer(0, 1, 0)}}, {"19999 20000 8", []api.CloudLayer{layer(19999, 20000, 8)}},
		{strings.Repeat("0 20000 8;", 9) + "1 2 3", append(slices.Repeat([]api.CloudLayer{layer(0, 20000, 8)}, 9), layer(1, 2, 3))},
	} {
		if got, e := cloud.ParseLayers(c.s); !same(got, c.want) || e != api.OK {
			t.Errorf("%q: %v, %d, want %v", c.s, got, e, c.want)
		}
	}
}

// P8.8
func TestParseLayersErrors(t *testing.T) {
	rejected := map[api.Errno][]string{
		api.ErrSyntax: {
			" ", ";", "0", "0 1", "0 1 0 0", "0 1 0;", ";0 1 0", "0 1 0;;0 1 0", "0 1 0;0 1", "0 1;0 1 0", "0 1 0; 0 1 0", "0 1 0 ;0 1 0", " 0 1 0", "0 1 0 ", "0  1 0", "0 1  0", "0 1 ", " 1 0", "0  0",
			"0,1,0", "0 1 0:0 1 0", "0 1 0\n", "0\t1 0", "a 1 0", "0 b 0", "0 1 c", "0x0 1 0", "0 1_0 0", "0 1. 0", "0 1 ٣", "0 1 0\x00", "/ 1 0", "0 : 0",
			"-1 1 0", "0 -1 0", "0 1 -1", "+0 1 0", "0 +1 0", "0 1 +0", "-0 1 0", "0 1 -0", "00 1 0", "0 01 0", "0 1 00", "100000 1 0", "0 100000 0", "0 1 000001", "0 1 99999999999999999999", "0 1 0;0 1 -1",
			// Whether a string is malformed comes before what its layers are.
			"99999 0 9;1", strings.Repeat("0 1 0;", 11), strings.Repeat("1", 60000), strings.Repeat("0 1 0;", 10000), strings.Repeat("0 1 9;", 11) + "a",
		},
		api.ErrLarge: {
			strings.Repeat("0 1 0;", 10) + "0 1 0", strings.Repeat("9 1 9;", 10) + "0 1 0", strings.Repeat("0 1 0;", 9999) + "0 1 0",
			strings.Repeat("1", 60001), strings.Repeat("0 1 0;", 10000) + "0", strings.Repeat(";", 60001),
		},
		api.ErrRange: {"20001 20002 0", "0 20001 0", "0 1 9", "99999 99999 99999", "1 0 9", "0 1 0;0 1 9", "20001 0 0"},
		api.ErrOrder: {"0 0 0", "1 0 0", "20000 20000 8", "0 1 0;7 6 0", "1 1 1;0 1 9"},
	}
	for want, l := range rejected {
		for _, s := range l {
			got, e := cloud.ParseLayers(s)
			expectOnly(t, strconv.Quote(s[:min(len(s), 60)]), got, e, want)
		}
	}
}

// P8.15
func TestStringsReverse(t *testing.T) {
	draw := &draws{111}
	for i, l := range profiles(112, 500) {
		s := cloud.FormatProfile(l)
		if got, e := cloud.ParseProfile(s); !same(got, l) || e != api.OK || cloud.FormatProfile(got) != s {
			t.Fatalf("%v: %v, %d", l, got, e)
		}
		layers := draw.layers(i % 11)
		kept := slices.Clone(layers)
		s = cloud.FormatLayers(layers)
		if got, e := cloud.ParseLayers(s); !same(got, kept) || e != api.OK || cloud.FormatLayers(got) != s || !same(layers, kept) {
			t.Fatalf("%v: %v, %d", kept, got, e)
		}
	}
	// What is not valid is not read.
	for _, x := range badProfiles() {
		got, e := cloud.ParseProfile(cloud.FormatProfile(x.value))
		if e == api.OK || len(got) != 0 {
			t.Errorf("%v: %v, %d", x.value, got, e)
		}
	}
	for _, x := range badLayers() {
		got, e := cloud.ParseLayers(cloud.FormatLayers(x.value))
		if e == api.OK || len(got) != 0 {
			t.Errorf("%v: %v, %d", x.value, got, e)
		}
	}
}

// R3, R4
func TestStringsMemory(t *testing.T) {
	l, _ := cloud.ParseProfile("10 0 45 45")
	l[0] = 7
	if again, _ := cloud.ParseProfile("10 0 45 45"); !same(again, one()) {
		t.Errorf("%v", again)
	}
	layers, _ := cloud.ParseLayers("500 800 3")
	layers[0].Base = 7
	if again, _ := cloud.ParseLayers("500 800 3"); !same(again, eight()[:1]) {
		t.Errorf("%v", again)
	}
}
