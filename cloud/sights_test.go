package cloud_test

import (
	"math/big"
	"slices"
	"testing"

	"glidepath/api"
	"glidepath/cloud"
)

// compare compares a number with a part of another one.
func compare(x int, part api.Frac, whole int) int {
	return ratOf(frac(x, 1)).Cmp(new(big.Rat).Mul(ratOf(part), ratOf(frac(whole, 1))))
}

func visibility(l []int, constant int, left api.Frac) int {
	for gate := range l {
		if compare(constant-sumOf(l[:gate+1]), left, constant) <= 0 {
			return gate
		}
	}
	return len(l)
}

func isBlind(l []int, gate int, x api.CloudBlind) bool {
	isDark := compare(sumOf(l[gate:]), x.Least, sumOf(l)) < 0
	return gate < x.Gates || l[gate] >= x.Saturated || isDark
}

// greatest returns those ranges of gates that have what is asked for and lie in no greater ones
// that have it.
func greatest(count int, has func(r api.Range) bool) []api.Range {
	var all, l []api.Range
	for lo := range count {
		for hi := lo; hi < count; hi++ {
			if r := (api.Range{Lo: lo, Hi: hi}); has(r) {
				all = append(all, r)
			}
		}
	}
	for _, r := range all {
		isGreater := func(x api.Range) bool { return x != r && x.Lo <= r.Lo && x.Hi >= r.Hi }
		if !slices.ContainsFunc(all, isGreater) {
			l = append(l, r)
		}
	}
	return l
}

func blindRanges(l []int, x api.CloudBlind) []api.Range {
	return greatest(len(l), func(r api.Range) bool {
		for gate := r.Lo; gate <= r.Hi; gate++ {
			if !isBlind(l, gate, x) {
				return false
			}
		}
		return true
	})
}

func layers(l []int, x api.CloudRule) []api.Range {
	all := greatest(len(l), func(r api.Range) bool {
		if l[r.Lo] < x.Floor || l[r.Hi] < x.Floor {
			return false
		}
		clear := 0
		for _, signal := range l[r.Lo : r.Hi+1] {
			clear++
			if signal >= x.Floor {
				clear = 0
			}
			if clear > x.Gap {
				return false
			}
		}
		return true
	})
	return slices.DeleteFunc(all, func(r api.Range) bool { return r.Hi-r.Lo+1 < x.Length })
}

// P8.3, example 3
func TestVisibilityOfExamples(t *testing.T) {
	for _, c := range []struct {
		profile  []int
		constant int
		left     api.Frac
		want     int
	}{
		{one(), 100, frac(1, 2), 2}, {one(), 100, frac(9, 10), 0}, {one(), 100, frac(91, 100), 0}, {one(), 100, frac(89, 100), 2},
		{one(), 100, frac(9, 20), 2}, {one(), 100, frac(0, 1), 3}, {one(), 100, frac(1, 1), 0}, {one(), 100, frac(1, 1000000000), 3},
		// It need not be that nothing is left.
		{one(), 101, frac(0, 1), 4}, {one(), 101, frac(1, 101), 3}, {one(), 101, frac(1, 102), 4}, {one(), 1000000, frac(999899, 1000000), 4}, {one(), 1000000, frac(9999, 10000), 3},
		{[]int{0}, 1, frac(999999999, 1000000000), 1}, {[]int{0}, 1, frac(1, 1), 0}, {[]int{1}, 1, frac(0, 1), 0},
		// The rest before a gate may be 0.
		{[]int{5, 5, 0, 0}, 10, frac(0, 1), 1}, {[]int{1, 0}, 1, frac(0, 1), 0},
		{slices.Repeat([]int{10000}, 24), 240000, frac(0, 1), 23}, {make([]int, 24), 1000000, frac(999999999, 1000000000), 24},
	} {
		if got, e := cloud.VisibilityOf(c.profile, c.constant, c.left); got != c.want || e != api.OK {
			t.Errorf("%v, %d, %v: %d, %d, want %d", c.profile, c.constant, c.left, got, e, c.want)
		}
	}
}

// P8.3, P8.10
func TestVisibilityOf(t *testing.T) {
	draw := &draws{89}
	for i, l := range profiles(90, 960) {
		sum := max(1, sumOf(l))
		constant := []int{sum, sum + 1, min(1000000, 2*sum), draw.from(sum, 1000000)}[i%4]
		left := draw.part([]int{1, 5, 1000000000}[i/4%3])
		got, e := cloud.VisibilityOf(l, constant, left)
		if got != visibility(l, constant, left) || e != api.OK {
			t.Fatalf("%v, %d, %v: %d, %d", l, constant, left, got, e)
		}
		smaller := lowest(left.Num*draw.from(0, 7), left.Den*7)
		if smaller.Den > 1000000000 {
			smaller = frac(0, 1)
		}
		if farther, e := cloud.VisibilityOf(l, constant, smaller); farther < got || e != api.OK {
			t.Fatalf("%v, %d: %d for %v, but %d, %d for %v", l, constant, got, left, farther, e, smaller)
		}
	}
}

// P8.3
func TestVisibilityOfErrors(t *testing.T) {
	for _, constant := range badConstants() {
		for _, left := range []api.Frac{frac(1, 2), frac(2, 2), frac(2, 1)} {
			got, e := cloud.VisibilityOf(one(), constant, left)
			expectOnly(t, "constant", got, e, api.ErrRange)
		}
	}
	for _, x := range badParts() {
		for _, constant := range []int{1, 99, 100, 1000000} {
			got, e := cloud.VisibilityOf(one(), constant, x.value)
			expectOnly(t, "left", got, e, x.want)
		}
	}
	for _, left := range []api.Frac{frac(0, 1), frac(1, 2), frac(1, 1)} {
		got, e := cloud.VisibilityOf(one(), 99, left)
		expectOnly(t, "break", got, e, api.ErrBreak)
		got, e = cloud.VisibilityOf(slices.Repeat([]int{10000}, 24), 239999, left)
		expectOnly(t, "break", got, e, api.ErrBreak)
		got, e = cloud.VisibilityOf([]int{0, 2, 0}, 1, left)
		expectOnly(t, "break", got, e, api.ErrBreak)
	}
}

// P8.3, example 4, edge cases
func TestBlindInExamples(t *testing.T) {
	four := []int{50, 1, 1, 80, 8}
	blind := func(gates, saturated, num, den int) api.CloudBlind {
		return api.CloudBlind{Gates: gates, Saturated: saturated, Least: frac(num, den)}
	}
	for _, c := range []struct {
		profile []int
		rule    api.CloudBlind
		want    []api.Range
	}{
		{four, blind(1, 60, 1, 4), ranges(0, 0, 3, 4)},
		{four, blind(0, 60, 1, 4), ranges(3, 4)},
		{four, blind(3, 60, 1, 4), ranges(0, 4)},
		{four, blind(2, 60, 1, 4), ranges(0, 1, 3, 4)},
		{four, blind(0, 50, 0, 1), ranges(0, 0, 3, 3)}, {four, blind(0, 51, 0, 1), ranges(3, 3)}, {four, blind(0, 81, 0, 1), nil}, {four, blind(0, 80, 0, 1), ranges(3, 3)},
		{four, blind(0, 1, 0, 1), ranges(0, 4)},
		{four, blind(24, 10000, 0, 1), ranges(0, 4)},
		// 8 is not less than 8 of 140; the rest before the first gate is the whole sum.
		{four, blind(0, 10000, 2, 35), nil}, {four, blind(0, 10000, 57143, 1000000), ranges(4, 4)}, {four, blind(0, 10000, 1, 1), ranges(1, 4)}, {four, blind(0, 10000, 9, 14), ranges(2, 4)}, {four, blind(0, 10000, 16, 25), ranges(2, 4)},
		// Of a profile of zeros no gate is blind for want of light.
		{make([]int, 3), blind(0, 1, 0, 1), nil}, {make([]int, 3), blind(0, 1, 1, 1), nil}, {make([]int, 3), blind(2, 1, 1, 1), ranges(0, 1)},
		// With the Least 0 none is.
		{[]int{9, 0, 0}, blind(0, 10, 0, 1), nil}, {[]int{9, 0, 0}, blind(0, 10, 1, 1000000000), ranges(1, 2)},
		{slices.Repeat([]int{10000}, 24), blind(0, 10000, 0, 1), ranges(0, 23)}, {[]int{10000}, blind(0, 10000, 1, 1), ranges(0, 0)}, {[]int{9999}, blind(0, 10000, 1, 1), nil},
	} {
		if got, e := cloud.BlindIn(c.profile, c.rule); !same(got, c.want) || e != api.OK {
			t.Errorf("%v, %v: %v, %d, want %v", c.profile, c.rule, got, e, c.want)
		}
	}
}

// P8.3, P8.10
func TestBlindIn(t *testing.T) {
	draw := &draws{91}
	for i, l := range profiles(92, 960) {
		most := slices.Max(l)
		x := api.CloudBlind{
			Gates:     draw.from(0, 3) * draw.from(0, 2),
			Saturated: min(10000, 1+draw.from(most/2, most)),
			Least:     draw.part([]int{1, 6, 1000000000}[i%3]),
		}
		got, e := cloud.BlindIn(l, x)
		if !same(got, blindRanges(l, x)) || e != api.OK {
			t.Fatalf("%v, %v: %v, %d, want %v", l, x, got, e, blindRanges(l, x))
		}
		checkApart(t, got)
	}
}

// checkApart checks that ranges ascend, and have no gate in common with one another.
func checkApart(t *testing.T, l []api.Range) {
	t.Helper()
	for i, r := range l {
		if r.Lo > r.Hi || i > 0 && r.Lo <= l[i-1].Hi {
			t.Fatalf("%v are not apart", l)
		}
	}
}

// P8.3
func TestBlindInErrors(t *testing.T) {
	for _, least := range []api.Frac{frac(1, 2), {}} {
		for _, x := range beyond(0, 24) {
			got, e := cloud.BlindIn(one(), api.CloudBlind{Gates: x, Saturated: 1, Least: least})
			expectOnly(t, "gates", got, e, api.ErrRange)
		}
		for _, x := range beyond(1, 10000) {
			got, e := cloud.BlindIn(one(), api.CloudBlind{Saturated: x, Least: least})
			expectOnly(t, "saturated", got, e, api.ErrRange)
		}
	}
	for _, x := range badParts() {
		for _, l := range [][]int{one(), {0}} {
			got, e := cloud.BlindIn(l, api.CloudBlind{Gates: 24, Saturated: 10000, Least: x.value})
			expectOnly(t, "least", got, e, x.want)
		}
	}
}

// P8.3, example 5, edge cases
func TestLayersInExamples(t *testing.T) {
	five := []int{0, 5, 0, 6, 0, 0, 7}
	for _, c := range []struct {
		profile []int
		rule    api.CloudRule
		want    []api.Range
	}{
		{five, api.CloudRule{Floor: 5, Gap: 1, Length: 2}, ranges(1, 3)},
		{five, api.CloudRule{Floor: 5, Gap: 1, Length: 1}, ranges(1, 3, 6, 6)},
		{five, api.CloudRule{Floor: 5, Gap: 0, Length: 1}, ranges(1, 1, 3, 3, 6, 6)},
		{five, api.CloudRule{Floor: 5, Gap: 2, Length: 1}, ranges(1, 6)},
		{five, api.CloudRule{Floor: 5, Gap: 24, Length: 6}, ranges(1, 6)}, {five, api.CloudRule{Floor: 5, Gap: 24, Length: 7}, nil},
		{five, api.CloudRule{Floor: 6, Gap: 1, Length: 1}, ranges(3, 3, 6, 6)}, {five, api.CloudRule{Floor: 7, Gap: 1, Length: 1}, ranges(6, 6)}, {five, api.CloudRule{Floor: 8, Gap: 24, Length: 1}, nil},
		{five, api.CloudRule{Floor: 5, Gap: 1, Length: 3}, ranges(1, 3)}, {five, api.CloudRule{Floor: 5, Gap: 1, Length: 4}, nil},
		{[]int{5, 5, 0, 5, 5}, api.CloudRule{Floor: 5, Gap: 0, Length: 2}, ranges(0, 1, 3, 4)},
		// A profile of zeros has no layer.
		{make([]int, 24), api.CloudRule{Floor: 1, Gap: 24, Length: 1}, nil}, {[]int{0}, api.CloudRule{Floor: 1, Gap: 0, Length: 1}, nil},
		{slices.Repeat([]int{10000}, 24), api.CloudRule{Floor: 10000, Gap: 0, Length: 24}, ranges(0, 23)}, {[]int{10000}, api.CloudRule{Floor: 10000, Gap: 24, Length: 1}, ranges(0, 0)},
		{append(append([]int{1}, make([]int, 22)...), 1), api.CloudRule{Floor: 1, Gap: 22, Length: 24}, ranges(0, 23)}, {append(append([]int{1}, make([]int, 22)...), 1), api.CloudRule{Floor: 1, Gap: 21, Length: 2}, nil},
	} {
		if got, e := cloud.LayersIn(c.profile, c.rule); !same(got, c.want) || e != api.OK {
			t.Errorf("%v, %v: %v, %d, want %v", c.profile, c.rule, got, e, c.want)
		}
	}
}

// P8.3, P8.10
func TestLayersIn(t *testing.T) {
	draw := &draws{93}
	for i, l := range profiles(94, 960) {
		x := api.CloudRule{Floor: draw.from(1, max(1, slices.Max(l))), Gap: i % 5, Length: draw.from(1, 1+i%6)}
		got, e := cloud.LayersIn(l, x)
		if !same(got, layers(l, x)) || e != api.OK {
			t.Fatalf("%v, %v: %v, %d, want %v", l, x, got, e, layers(l, x))
		}
		checkApart(t, got)
		x.Floor = draw.from(1, x.Floor)
		greater, e := cloud.LayersIn(l, x)
		for _, r := range got {
			hasIt := func(g api.Range) bool { return g.Lo <= r.Lo && g.Hi >= r.Hi }
			if !slices.ContainsFunc(greater, hasIt) || e != api.OK {
				t.Fatalf("%v, %v: %v is not in %v, %d", l, x, r, greater, e)
			}
		}
	}
}

// P8.3
func TestLayersInErrors(t *testing.T) {
	for _, x := range beyond(1, 10000) {
		got, e := cloud.LayersIn(one(), api.CloudRule{Floor: x, Gap: 1, Length: 1})
		expectOnly(t, "floor", got, e, api.ErrRange)
	}
	for _, x := range beyond(0, 24) {
		got, e := cloud.LayersIn(one(), api.CloudRule{Floor: 1, Gap: x, Length: 1})
		expectOnly(t, "gap", got, e, api.ErrRange)
	}
	for _, x := range beyond(1, 24) {
		got, e := cloud.LayersIn(one(), api.CloudRule{Floor: 1, Gap: 1, Length: x})
		expectOnly(t, "length", got, e, api.ErrRange)
	}
}
