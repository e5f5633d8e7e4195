package cloud_test

import (
	"math"
	"slices"
	"testing"

	"glidepath/api"
	"glidepath/cloud"
)

func point(sum, off int) api.CloudPoint { return api.CloudPoint{Sum: sum, Off: off} }

// P8.1
func TestCheckProfile(t *testing.T) {
	for _, l := range append(profiles(81, 200), one(), []int{0}, []int{10000}, make([]int, 24), slices.Repeat([]int{10000}, 24)) {
		if i, e := cloud.CheckProfile(l); i != 0 || e != api.OK {
			t.Errorf("%v: %d, %d", l, i, e)
		}
	}
	for _, x := range badProfiles() {
		if i, e := cloud.CheckProfile(x.value); i != x.index || e != x.want {
			t.Errorf("%v: %d, %d, want %d, %d", x.value, i, e, x.index, x.want)
		}
	}
}

// P8.2, P8.3, P8.4: the errors of the profile come first, whatever else is wrong, and without the
// index.
func TestProfileErrors(t *testing.T) {
	for _, x := range badProfiles() {
		for _, other := range []int{0, -1, 50} {
			shares, e := cloud.Undone(x.value, other)
			expectOnly(t, "Undone", shares, e, x.want)
			spans, e := cloud.UndoneIn(x.value, api.Range{Lo: other, Hi: -5})
			expectOnly(t, "UndoneIn", spans, e, x.want)
			gate, e := cloud.VisibilityOf(x.value, other, frac(other, 2))
			expectOnly(t, "VisibilityOf", gate, e, x.want)
			blind, e := cloud.BlindIn(x.value, api.CloudBlind{Gates: other, Saturated: other})
			expectOnly(t, "BlindIn", blind, e, x.want)
			layers, e := cloud.LayersIn(x.value, api.CloudRule{Floor: other, Length: other})
			expectOnly(t, "LayersIn", layers, e, x.want)
			cost, e := cloud.SegmentCost(x.value, api.Range{Lo: other, Hi: 0})
			expectOnly(t, "SegmentCost", cost, e, x.want)
			starts, cost, e := cloud.SegmentsOf(x.value, other)
			expectOnly(t, "SegmentsOf", starts, e, x.want)
			expectOnly(t, "SegmentsOf", cost, e, x.want)
			potentials, e := cloud.PotentialsOf(x.value, other)
			expectOnly(t, "PotentialsOf", potentials, e, x.want)
			for _, p := range [][]int{nil, {0}, {0, 0, 0, 0}, {7, 7, 7}} {
				potential, e := cloud.CheckPotentials(x.value, other, p)
				expectOnly(t, "CheckPotentials", potential, e, x.want)
			}
		}
	}
}

// R3: no argument is changed.
func TestProfileKept(t *testing.T) {
	for _, l := range append(profiles(82, 100), []int{3, 1, 2}) {
		kept := slices.Clone(l)
		cloud.CheckProfile(l)
		cloud.Undone(l, 1000000)
		cloud.UndoneIn(l, api.Range{Lo: 500000, Hi: 1000000})
		cloud.VisibilityOf(l, 1000000, frac(1, 2))
		cloud.BlindIn(l, api.CloudBlind{Gates: 1, Saturated: 5, Least: frac(1, 2)})
		cloud.LayersIn(l, api.CloudRule{Floor: 2, Gap: 1, Length: 1})
		cloud.SegmentCost(l, api.Range{Lo: 0, Hi: len(l) - 1})
		cloud.SegmentsOf(l, 3)
		potentials, _ := cloud.PotentialsOf(l, 3)
		keptPotentials := slices.Clone(potentials)
		cloud.CheckPotentials(l, 3, potentials)
		cloud.FormatProfile(l)
		if !slices.Equal(l, kept) || !slices.Equal(potentials, keptPotentials) {
			t.Fatalf("%v, %v changed from %v, %v", l, potentials, kept, keptPotentials)
		}
	}
}

// P8.1, example 2
func TestConstantOfExamples(t *testing.T) {
	for _, c := range []struct {
		points []api.CloudPoint
		want   api.Range
	}{
		{[]api.CloudPoint{point(100, 10), point(95, 3)}, api.Range{Lo: 92, Hi: 98}},
		{[]api.CloudPoint{point(95, 3), point(100, 10)}, api.Range{Lo: 92, Hi: 98}},
		{[]api.CloudPoint{point(100, 10)}, api.Range{Lo: 90, Hi: 110}},
		{[]api.CloudPoint{point(1, 0)}, api.Range{Lo: 1, Hi: 1}},
		{[]api.CloudPoint{point(1000000, 0)}, api.Range{Lo: 1000000, Hi: 1000000}},
		// The ends may be below 1, and above the greatest constant.
		{[]api.CloudPoint{point(1, 1)}, api.Range{Lo: 0, Hi: 2}},
		{[]api.CloudPoint{point(1, 1000000)}, api.Range{Lo: -999999, Hi: 1000001}},
		{[]api.CloudPoint{point(1000000, 1000000)}, api.Range{Lo: 0, Hi: 2000000}},
		{[]api.CloudPoint{point(5, 7), point(1, 2)}, api.Range{Lo: -1, Hi: 3}},
		// One number alone.
		{[]api.CloudPoint{point(10, 3), point(16, 3)}, api.Range{Lo: 13, Hi: 13}},
		{[]api.CloudPoint{point(10, 9), point(16, 3), point(14, 1), point(13, 5)}, api.Range{Lo: 13, Hi: 15}},
		{slices.Repeat([]api.CloudPoint{point(9, 2)}, 12), api.Range{Lo: 7, Hi: 11}},
	} {
		if got, e := cloud.ConstantOf(c.points); got != c.want || e != api.OK {
			t.Errorf("%v: %v, %d, want %v", c.points, got, e, c.want)
		}
	}
}

// P8.1
func TestConstantOf(t *testing.T) {
	draw := &draws{83}
	for i := range 500 {
		var l []api.CloudPoint
		for range 1 + i%12 {
			l = append(l, point(draw.from(20, 40), draw.from(0, 20)))
		}
		kept := slices.Clone(l)
		var fitting []int
		for constant := range 100 {
			isBeyond := func(x api.CloudPoint) bool { return constant < x.Sum-x.Off || constant > x.Sum+x.Off }
			if !slices.ContainsFunc(l, isBeyond) {
				fitting = append(fitting, constant)
			}
		}
		got, e := cloud.ConstantOf(l)
		if len(fitting) == 0 {
			expectOnly(t, "none", got, e, api.ErrNone)
		} else if want := (api.Range{Lo: slices.Min(fitting), Hi: slices.Max(fitting)}); got != want || e != api.OK {
			t.Errorf("%v: %v, %d, want %v", l, got, e, want)
		}
		if !slices.Equal(l, kept) {
			t.Fatalf("%v changed from %v", l, kept)
		}
	}
}

// P8.1
func TestConstantOfErrors(t *testing.T) {
	type list = []api.CloudPoint
	l := []bad[list]{
		{nil, 0, api.ErrShape}, {list{}, 0, api.ErrShape},
		{make(list, 13), 0, api.ErrLarge}, {slices.Repeat(list{point(1, 1)}, 13), 0, api.ErrLarge},
		{list{point(10, 3), point(17, 3)}, 0, api.ErrNone}, {list{point(17, 3), point(10, 3)}, 0, api.ErrNone},
		{list{point(5, 9), point(10, 0), point(11, 0)}, 0, api.ErrNone}, {list{point(1, 0), point(1000000, 999998)}, 0, api.ErrNone},
	}
	for _, x := range beyond(1, 1000000) {
		l = append(l, bad[list]{list{point(x, 0)}, 0, api.ErrRange}, bad[list]{list{point(1, 0), point(9, 0), point(x, 1)}, 0, api.ErrRange}, bad[list]{append(make(list, 10), point(x, x)), 0, api.ErrRange})
	}
	for _, x := range beyond(0, 1000000) {
		l = append(l, bad[list]{list{point(1, x)}, 0, api.ErrRange}, bad[list]{list{point(1000000, 0), point(9, 0), point(5, x)}, 0, api.ErrRange})
	}
	for _, x := range l {
		got, e := cloud.ConstantOf(x.value)
		expectOnly(t, "points", got, e, x.want)
	}
	// R2: numbers without a size.
	got, e := cloud.ConstantOf(list{point(math.MinInt, math.MinInt)})
	expectOnly(t, "points", got, e, api.ErrRange)
}
