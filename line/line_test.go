package line_test

import (
	"slices"
	"testing"

	"glidepath/api"
	"glidepath/line"
)

// P2.1
func TestCheckSpectrum(t *testing.T) {
	for _, x := range badSpectra {
		if i, e := line.CheckSpectrum(x.lines); i != x.index || e != x.want {
			t.Error(x.lines, i, e)
		}
	}
	for _, l := range [][]int{{0}, {10000}, four(), slices.Repeat([]int{10000}, 16)} {
		if i, e := line.CheckSpectrum(l); i != 0 || e != api.OK {
			t.Error(l, i, e)
		}
	}
}

// P2.1
func TestPeaks(t *testing.T) {
	for _, x := range []struct {
		lines []int
		peaks []int
	}{
		{four(), []int{1}},
		{[]int{7}, []int{0}},
		{[]int{0, 0, 0}, []int{0, 1, 2}},
		{[]int{1, 3, 2, 3, 3, 0}, []int{1, 3, 4}},
		{[]int{0, 0, 1}, []int{2}},
		{slices.Repeat([]int{10000}, 16), []int{0, 1, 2, 3, 4, 5, 6, 7, 8, 9, 10, 11, 12, 13, 14, 15}},
	} {
		if k, e := line.PeakOf(x.lines); e != api.OK || k != x.peaks[0] {
			t.Error(x, k, e)
		}
		if l, e := line.PeaksOf(x.lines); e != api.OK || !same(l, x.peaks) {
			t.Error(x, l, e)
		}
	}
	for _, x := range badSpectra {
		k, e := line.PeakOf(x.lines)
		expectOnly(t, "peak", k, e, x.want)
		l, e := line.PeaksOf(x.lines)
		expectOnly(t, "peaks", l, e, x.want)
	}
}

// P2.1
func TestWhitened(t *testing.T) {
	for _, x := range []struct{ lines, background, want []int }{
		{four(), []int{1, 1, 3, 0}, []int{0, 3, 0, 0}},
		{[]int{5}, []int{0}, []int{5}},
		{[]int{0, 10000, 10000}, []int{10000, 10000, 9999}, []int{0, 0, 1}},
	} {
		if l, e := line.Whitened(x.lines, x.background); e != api.OK || !same(l, x.want) {
			t.Error(x, l, e)
		}
	}
	for _, x := range badSpectra {
		for _, other := range [][]int{four(), {-1}, nil} {
			l, e := line.Whitened(x.lines, other)
			expectOnly(t, "spectrum", l, e, x.want)
		}
		l, e := line.Whitened(four(), x.lines)
		expectOnly(t, "background", l, e, x.want)
	}
	for _, background := range [][]int{{1, 4, 2}, {1, 4, 2, 0, 0}} {
		l, e := line.Whitened(four(), background)
		expectOnly(t, "lengths", l, e, api.ErrClash)
	}
}

// R3
func TestMemory(t *testing.T) {
	l, background := four(), []int{0, 0, 0, 0}
	whitened, _ := line.Whitened(l, background)
	whitened[0] = 99
	if !same(l, four()) || !same(background, []int{0, 0, 0, 0}) {
		t.Error(l, background)
	}
	c := two()
	noisy, _ := line.Noisy(c, 0)
	noisy[0] = 99
	x := noise(3, 1, 2)
	for range 2 {
		if threshold, e := line.ThresholdFor(x, 1, 0); threshold != 4 || e != api.OK {
			t.Error(threshold, e)
		}
		if again, _ := line.Noisy(c, 0); !same(again, []int{2, 2}) {
			t.Error(again)
		}
	}
	kinds := []int{3, 1, 2, 0}
	if _, _, e := line.BestOf(c, kinds); e != api.OK || !same(kinds, []int{3, 1, 2, 0}) {
		t.Error(kinds, e)
	}
	if !same(x.Values, []int{3, 1, 2}) || line.FormatCase(c) != "2 2/0 1/0 1" {
		t.Error(x, c)
	}
}
