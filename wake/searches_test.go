package wake_test

import (
	"math"
	"reflect"
	"slices"
	"testing"

	"glidepath/api"
	"glidepath/wake"
)

// pairsOf are the pairs of a search by their definition.
func pairsOf(x api.WakeSearch) []api.WakePair {
	var l []api.WakePair
	for y := -1000; y <= 1000; y++ {
		if y < x.Y.Lo || y > x.Y.Hi {
			continue
		}
		for z := x.Z.Lo; z <= x.Z.Hi; z++ {
			for _, strength := range x.Strengths {
				l = append(l, pair(y, z, x.Half, strength))
			}
		}
	}
	return l
}

// misfitIn is the misfit of a pair for the readings of a search.
func misfitIn(x api.WakeSearch, p api.WakePair) int {
	misfit := 0
	for _, y := range x.Readings {
		off := radialOf(p, x.Setup, y.At) - y.Product
		misfit += max(off, -off)
	}
	return misfit
}

// copyOf shares no memory with a search.
func copyOf(x api.WakeSearch) api.WakeSearch {
	x.Strengths, x.Readings = slices.Clone(x.Strengths), slices.Clone(x.Readings)
	return x
}

// badSearches have errors that are listed later, too, which must not count.
func badSearches() []bad[api.WakeSearch] {
	var l []bad[api.WakeSearch]
	add := func(want api.Errno, change func(*api.WakeSearch)) {
		x := searched()
		change(&x)
		l = append(l, bad[api.WakeSearch]{x, 0, want})
	}
	many := make([]api.WakeReading, 13)
	for _, r := range outside(-1000, 1000) {
		add(api.ErrRange, func(x *api.WakeSearch) { x.Y = r })
		add(api.ErrRange, func(x *api.WakeSearch) { x.Y, x.Z, x.Strengths = r, ends(1, 0), nil })
	}
	for _, r := range reversed(-1000, 1000) {
		add(api.ErrOrder, func(x *api.WakeSearch) { x.Y = r })
		add(api.ErrOrder, func(x *api.WakeSearch) { x.Y, x.Z, x.Half = r, ends(-1, 0), 0 })
	}
	for _, r := range []api.Range{ends(-1000, 1000), ends(0, 13), ends(-1000, -987), ends(987, 1000)} {
		add(api.ErrLarge, func(x *api.WakeSearch) { x.Y = r })
		add(api.ErrLarge, func(x *api.WakeSearch) { x.Y, x.Z, x.Half = r, ends(1001, 0), 0 })
	}
	for _, r := range outside(0, 1000) {
		add(api.ErrRange, func(x *api.WakeSearch) { x.Z = r })
		add(api.ErrRange, func(x *api.WakeSearch) { x.Z, x.Strengths = r, nil })
	}
	for _, r := range reversed(0, 1000) {
		add(api.ErrOrder, func(x *api.WakeSearch) { x.Z = r })
		add(api.ErrOrder, func(x *api.WakeSearch) { x.Z, x.Half, x.Strengths = r, 0, nil })
	}
	for _, r := range []api.Range{ends(0, 1000), ends(0, 13), ends(987, 1000)} {
		add(api.ErrLarge, func(x *api.WakeSearch) { x.Z = r })
		add(api.ErrLarge, func(x *api.WakeSearch) { x.Z, x.Half, x.Strengths = r, 0, nil })
	}
	for _, half := range beyond(1, 100) {
		add(api.ErrRange, func(x *api.WakeSearch) { x.Half = half })
		add(api.ErrRange, func(x *api.WakeSearch) { x.Half, x.Strengths = half, nil })
	}
	add(api.ErrShape, func(x *api.WakeSearch) { x.Strengths = nil })
	add(api.ErrShape, func(x *api.WakeSearch) { x.Strengths, x.Setup = []int{}, api.WakeSetup{} })
	add(api.ErrLarge, func(x *api.WakeSearch) { x.Strengths = []int{1, 2, 3, 4, 5, 6, 7} })
	add(api.ErrLarge, func(x *api.WakeSearch) { x.Strengths, x.Setup = make([]int, 7), api.WakeSetup{} })
	for _, strength := range beyond(1, 10000) {
		add(api.ErrRange, func(x *api.WakeSearch) { x.Strengths = []int{strength} })
		// All errors of a number come before whether it follows the one before; those of later ones do not count.
		add(api.ErrRange, func(x *api.WakeSearch) { x.Strengths, x.Readings = []int{10000, strength, 1}, many })
		add(api.ErrOrder, func(x *api.WakeSearch) { x.Strengths = []int{3, 2, strength} })
	}
	add(api.ErrOrder, func(x *api.WakeSearch) { x.Strengths = []int{5, 5} })
	add(api.ErrOrder, func(x *api.WakeSearch) { x.Strengths, x.Setup = []int{1, 9999, 10000, 9999}, api.WakeSetup{} })
	add(api.ErrOrder, func(x *api.WakeSearch) { x.Strengths, x.Readings = []int{5, 9, 7, 8, 10}, many })
	for _, wrong := range badSetups() {
		add(api.ErrRange, func(x *api.WakeSearch) { x.Setup, x.Readings = wrong, many })
	}
	for _, wrong := range badReadings() {
		add(wrong.want, func(x *api.WakeSearch) { x.Readings = wrong.value })
	}
	return l
}

// P6.2
func TestCheckSearch(t *testing.T) {
	good := []api.WakeSearch{
		searched(),
		{Y: ends(-1000, -988), Z: ends(0, 12), Half: 1, Strengths: []int{1}, Setup: setup(-1000, 0, 1)},
		{Y: ends(988, 1000), Z: ends(988, 1000), Half: 100, Strengths: []int{1, 2, 3, 4, 5, 10000}, Setup: setup(1000, 1000, 10000)},
		{Y: ends(1000, 1000), Z: ends(1000, 1000), Half: 100, Strengths: []int{10000}, Setup: s(), Readings: make([]api.WakeReading, 12)},
		{Y: ends(-1000, -1000), Z: ends(0, 0), Half: 1, Strengths: []int{1}, Setup: s(), Readings: []api.WakeReading{reading(-1000, 0, -1000000000), reading(1000, 1000, 1000000000)}},
	}
	for _, x := range good {
		expect(t, "a search", wake.CheckSearch(x), api.OK)
	}
	for _, x := range badSearches() {
		if e := wake.CheckSearch(x.value); e != x.want {
			t.Errorf("%v: error %d, want %d", x.value, e, x.want)
		}
	}
}

// P6.2, example 3
func TestBestInExample(t *testing.T) {
	best, misfit, e := wake.BestIn(searched())
	if best != p() || misfit != 0 || e != api.OK {
		t.Errorf("the best pair is %v with %d, %d", best, misfit, e)
	}
	for _, c := range []struct {
		most int
		want []api.WakePair
	}{
		{0, []api.WakePair{p()}},
		{5, []api.WakePair{p()}},
		{6, []api.WakePair{p(), pair(1, 10, 3, 5)}},
		{8, []api.WakePair{p(), pair(1, 10, 3, 5), pair(1, 10, 3, 10)}},
		{10, []api.WakePair{pair(0, 10, 3, 5), p(), pair(1, 10, 3, 5), pair(1, 10, 3, 10)}},
	} {
		if got, e := wake.MatchesIn(searched(), c.most); !same(got, c.want) || e != api.OK {
			t.Errorf("at most %d: %v, %d, want %v", c.most, got, e, c.want)
		}
	}
}

// P6.2, P6.9: no pair has a smaller misfit than the best one, which is the first one with it; the matches for
// its misfit begin with it, and a greater number has no fewer.
func TestBestInByDefinition(t *testing.T) {
	draw := &draws{65}
	for i := range 300 {
		x := draw.search(i%5, []int{2, 100, 100000}[i%3])
		least := math.MaxInt
		var want []api.WakePair
		for _, p := range pairsOf(x) {
			if misfit := misfitIn(x, p); misfit < least {
				least, want = misfit, []api.WakePair{p}
			} else if misfit == least {
				want = append(want, p)
			}
		}
		best, misfit, e := wake.BestIn(x)
		if best != want[0] || misfit != least || e != api.OK {
			t.Fatalf("%v: %v with %d, %d, want %v with %d", x, best, misfit, e, want[0], least)
		}
		if got, e := wake.MatchesIn(x, least); !same(got, want) || e != api.OK {
			t.Fatalf("%v, at most %d: %v, %d, want %v", x, least, got, e, want)
		}
		if least > 0 {
			if got, e := wake.MatchesIn(x, least-1); len(got) > 0 || e != api.OK {
				t.Fatalf("%v, at most %d: %v, %d", x, least-1, got, e)
			}
		}
		more := least + draw.from(1, 300)
		want = slices.DeleteFunc(pairsOf(x), func(p api.WakePair) bool { return misfitIn(x, p) > more })
		if got, e := wake.MatchesIn(x, more); !same(got, want) || e != api.OK {
			t.Fatalf("%v, at most %d: %v, %d, want %v", x, more, got, e, want)
		}
	}
}

// P6.2: of several pairs with the minimum misfit the first one by Y, then by Z, then by Strength is the best one.
func TestBestInFirst(t *testing.T) {
	x := api.WakeSearch{Y: ends(-6, 6), Z: ends(3, 15), Half: 2, Strengths: []int{1, 2, 3, 4, 5, 6}, Setup: s()}
	best, misfit, e := wake.BestIn(x)
	if best != pair(-6, 3, 2, 1) || misfit != 0 || e != api.OK {
		t.Errorf("without readings: %v with %d, %d", best, misfit, e)
	}
	if got, e := wake.MatchesIn(x, 0); !same(got, pairsOf(x)) || len(got) != 13*13*6 || e != api.OK {
		t.Errorf("without readings: %d pairs, %d", len(got), e)
	}
	// Seen from the lidar's own position all pairs have the product 0.
	x.Readings = []api.WakeReading{reading(0, 0, 17)}
	best, misfit, e = wake.BestIn(x)
	if best != pair(-6, 3, 2, 1) || misfit != 17 || e != api.OK {
		t.Errorf("from the lidar: %v with %d, %d", best, misfit, e)
	}
}

// P6.8: readings that are the products of a pair of a search have the misfit 0 for it, and so has the best pair.
func TestPattern(t *testing.T) {
	draw := &draws{66}
	for i := range 200 {
		x := draw.search(i%13, 0)
		all := pairsOf(x)
		p := all[draw.from(0, len(all)-1)]
		for j := range x.Readings {
			product, e := wake.RadialAt(p, x.Setup, x.Readings[j].At)
			expect(t, "RadialAt", e, api.OK)
			x.Readings[j].Product = product
		}
		if misfit, e := wake.MisfitOf(p, x.Setup, x.Readings); misfit != 0 || e != api.OK {
			t.Fatalf("%v, %v: %d, %d", p, x, misfit, e)
		}
		if best, misfit, e := wake.BestIn(x); misfit != 0 || misfitIn(x, best) != 0 || e != api.OK {
			t.Fatalf("%v: %v with %d, %d", x, best, misfit, e)
		}
		if got, e := wake.MatchesIn(x, 0); !slices.Contains(got, p) || e != api.OK {
			t.Fatalf("%v: %v, %d, without %v", x, got, e, p)
		}
	}
}

// P6.2: the ends of a search, at the greatest parts.
func TestBestInEnds(t *testing.T) {
	x := api.WakeSearch{
		Y: ends(988, 1000), Z: ends(988, 1000), Half: 100, Strengths: []int{9995, 9996, 9997, 9998, 9999, 10000},
		Setup: setup(-1000, 0, 1), Readings: slices.Repeat([]api.WakeReading{reading(-1000, 1000, -1000000000)}, 12),
	}
	least := math.MaxInt
	for _, p := range pairsOf(x) {
		least = min(least, misfitIn(x, p))
	}
	best, misfit, e := wake.BestIn(x)
	if misfit != least || misfitIn(x, best) != least || e != api.OK {
		t.Errorf("%v with %d, %d, want %d", best, misfit, e, least)
	}
	if got, e := wake.MatchesIn(x, 12000000000); e != api.OK || len(got) == 0 {
		t.Errorf("at most 12000000000: %d pairs, %d", len(got), e)
	}
}

// P6.2
func TestSearchErrors(t *testing.T) {
	for _, x := range badSearches() {
		best, misfit, e := wake.BestIn(x.value)
		expectOnly(t, "BestIn", best, e, x.want)
		expectOnly(t, "BestIn", misfit, e, x.want)
		for _, most := range []int{0, -1} {
			got, e := wake.MatchesIn(x.value, most)
			expectOnly(t, "MatchesIn", got, e, x.want)
		}
	}
	for _, most := range beyond(0, 12000000000) {
		got, e := wake.MatchesIn(searched(), most)
		expectOnly(t, "MatchesIn", got, e, api.ErrRange)
	}
	got, e := wake.MatchesIn(searched(), 12000000000)
	if len(got) != 4 || e != api.OK {
		t.Errorf("at most 12000000000: %v, %d", got, e)
	}
}

// R3, R4
func TestSearchMemory(t *testing.T) {
	x := searched()
	kept := copyOf(x)
	first, _, _ := wake.BestIn(x)
	l, _ := wake.MatchesIn(x, 10)
	wake.CheckSearch(x)
	l[0] = api.WakePair{}
	if !reflect.DeepEqual(x, kept) {
		t.Errorf("%v was changed to %v", kept, x)
	}
	again, _, _ := wake.BestIn(x)
	if m, _ := wake.MatchesIn(x, 10); again != first || len(m) != 4 || m[0] != pair(0, 10, 3, 5) {
		t.Errorf("the second time: %v, %v", again, m)
	}
}
