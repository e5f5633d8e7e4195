package line_test

import (
	"math"
	"slices"
	"testing"

	"glidepath/api"
	"glidepath/line"
)

// P2.2
func TestCentroidIn(t *testing.T) {
	for _, x := range []struct {
		lines []int
		half  int
		want  api.Frac
	}{
		{four(), 1, frac(8, 7)},
		{four(), 0, frac(1, 1)},
		{four(), 16, frac(8, 7)},
		{[]int{5}, 0, frac(0, 1)},
		{[]int{5}, 16, frac(0, 1)},
		{[]int{1, 0, 2, 0, 2}, 1, frac(2, 1)},
		{[]int{1, 0, 2, 0, 2}, 2, frac(12, 5)},
		{[]int{9, 9, 0, 9}, 1, frac(1, 2)},
		{[]int{0, 1, 0, 2, 6}, 2, frac(15, 4)},
		{slices.Repeat([]int{10000}, 16), 15, frac(15, 2)},
	} {
		if c, e := line.CentroidIn(x.lines, x.half); e != api.OK || c != x.want {
			t.Error(x, c, e)
		}
	}
	for _, x := range badSpectra {
		for _, half := range []int{0, -1} {
			c, e := line.CentroidIn(x.lines, half)
			expectOnly(t, "spectrum", c, e, x.want)
		}
	}
	for _, half := range []int{-1, 17, math.MinInt, math.MaxInt} {
		for _, l := range [][]int{four(), {0}} {
			c, e := line.CentroidIn(l, half)
			expectOnly(t, "half", c, e, api.ErrRange)
		}
	}
	for _, l := range [][]int{{0}, {0, 0, 0}} {
		c, e := line.CentroidIn(l, 16)
		expectOnly(t, "dark", c, e, api.ErrZero)
	}
}

// P2.2
func TestEstimated(t *testing.T) {
	for _, x := range []struct {
		lines []int
		want  [api.LineEstimators]api.Frac
	}{
		{four(), [4]api.Frac{frac(1, 1), frac(8, 7), frac(11, 10), frac(1, 1)}},
		{[]int{7}, [4]api.Frac{frac(0, 1), frac(0, 1), frac(0, 1), frac(0, 1)}},
		{[]int{0, 0, 0, 0}, [4]api.Frac{frac(0, 1), frac(0, 1), frac(0, 1), frac(0, 1)}},
		// A peak at the first or the last line.
		{[]int{4, 2, 0}, [4]api.Frac{frac(0, 1), frac(1, 3), frac(0, 1), frac(0, 1)}},
		{[]int{0, 2, 4}, [4]api.Frac{frac(2, 1), frac(5, 3), frac(2, 1), frac(2, 1)}},
		{[]int{1, 1}, [4]api.Frac{frac(0, 1), frac(1, 2), frac(0, 1), frac(0, 1)}},
		// Equal neighbours of the peak.
		{[]int{3, 5, 3, 0}, [4]api.Frac{frac(1, 1), frac(1, 1), frac(1, 1), frac(1, 1)}},
		// The peak is the first one of two: half a line to the second one.
		{[]int{0, 5, 5, 0}, [4]api.Frac{frac(1, 1), frac(3, 2), frac(3, 2), frac(1, 1)}},
		{[]int{3, 4, 0, 0, 9, 2}, [4]api.Frac{frac(4, 1), frac(25, 9), frac(65, 16), frac(4, 1)}},
		{[]int{6, 7, 0, 0}, [4]api.Frac{frac(1, 1), frac(7, 13), frac(5, 8), frac(1, 1)}},
		// A half of all is enough for the median.
		{[]int{2, 0, 0, 1, 1}, [4]api.Frac{frac(0, 1), frac(7, 4), frac(0, 1), frac(0, 1)}},
		{[]int{2, 0, 0, 1, 2}, [4]api.Frac{frac(0, 1), frac(11, 5), frac(0, 1), frac(3, 1)}},
		{slices.Repeat([]int{10000}, 16), [4]api.Frac{frac(0, 1), frac(15, 2), frac(0, 1), frac(7, 1)}},
	} {
		for kind, want := range x.want {
			if p, e := line.Estimated(x.lines, kind); e != api.OK || p != want {
				t.Error(x.lines, kind, p, e)
			}
		}
	}
}

func TestEstimatedErrors(t *testing.T) {
	for _, x := range badSpectra {
		for _, kind := range []int{0, -1} {
			p, e := line.Estimated(x.lines, kind)
			expectOnly(t, "spectrum", p, e, x.want)
		}
	}
	for _, kind := range []int{-1, api.LineEstimators, math.MinInt, math.MaxInt} {
		for _, l := range [][]int{four(), {0}} {
			p, e := line.Estimated(l, kind)
			expectOnly(t, "kind", p, e, api.ErrKind)
		}
	}
}

// P2.9
func TestWhereEstimatesLie(t *testing.T) {
	d := draws{9}
	for range 300 {
		l := d.spectrum(9)
		times := d.from(1, 1000)
		greater := make([]int, len(l))
		for i, power := range l {
			greater[i] = times * power
		}
		for kind := range api.LineEstimators {
			p, e := line.Estimated(l, kind)
			if e != api.OK || p.Num < 0 || p.Num > (len(l)-1)*p.Den || p != lowest(p.Num, p.Den) {
				t.Fatal(l, kind, p, e)
			}
			if q, e := line.Estimated(greater, kind); e != api.OK || q != p {
				t.Fatal(l, times, kind, p, q, e)
			}
		}
		if slices.Max(l) == 0 {
			continue
		}
		mirrored := slices.Clone(l)
		slices.Reverse(mirrored)
		p, _ := line.Estimated(l, api.LineCentroid)
		q, e := line.Estimated(mirrored, api.LineCentroid)
		if e != api.OK || q != frac((len(l)-1)*p.Den-p.Num, p.Den) {
			t.Fatal(l, p, q, e)
		}
	}
}
