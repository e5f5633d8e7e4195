package cloud_test

import (
	"cmp"
	"math"
	"slices"
	"testing"

	"glidepath/api"
	"glidepath/cloud"
)

// segmentCost looks at all numbers that are between the smallest and the greatest signal.
func segmentCost(l []int) int {
	least := math.MaxInt
	for m := slices.Min(l); m <= slices.Max(l); m++ {
		cost := 0
		for _, x := range l {
			cost += max(x-m, m-x)
		}
		least = min(least, cost)
	}
	return least
}

func divisionCost(l []int, starts []int, penalty int) int {
	cost := 0
	for i, start := range starts {
		end := len(l)
		if i+1 < len(starts) {
			end = starts[i+1]
		}
		cost += segmentCost(l[start:end]) + penalty
	}
	return cost
}

// divisions are all of so many gates.
func divisions(gates int) [][]int {
	var all [][]int
	for set := range 1 << (gates - 1) {
		starts := []int{0}
		for gate := 1; gate < gates; gate++ {
			if set>>(gate-1)&1 == 1 {
				starts = append(starts, gate)
			}
		}
		all = append(all, starts)
	}
	return all
}

func bestDivision(l []int, penalty int) ([]int, int) {
	best := slices.MinFunc(divisions(len(l)), func(a, b []int) int {
		return cmp.Or(
			cmp.Compare(divisionCost(l, a, penalty), divisionCost(l, b, penalty)),
			cmp.Compare(len(a), len(b)),
			slices.Compare(a, b),
		)
	})
	return best, divisionCost(l, best, penalty)
}

// shortProfiles have few signals that differ little, so that many divisions cost the same.
func shortProfiles(seed uint64, count int) [][]int {
	draw := &draws{seed}
	var l [][]int
	for i := range count {
		l = append(l, draw.list(1+i%9, 0, []int{1, 2, 5, 30}[i/9%4]))
	}
	return l
}

// P8.4, example 6, edge cases
func TestSegmentCostExamples(t *testing.T) {
	for _, c := range []struct {
		profile []int
		r       api.Range
		want    int
	}{
		{[]int{1, 5, 6}, api.Range{Lo: 0, Hi: 2}, 5}, {[]int{1, 5, 6}, api.Range{Lo: 1, Hi: 2}, 1}, {[]int{1, 5, 6}, api.Range{Lo: 0, Hi: 1}, 4},
		{[]int{1, 1, 9, 9}, api.Range{Lo: 0, Hi: 3}, 16}, {[]int{6, 1, 5}, api.Range{Lo: 0, Hi: 2}, 5},
		// A segment of one gate costs nothing.
		{[]int{1, 5, 6}, api.Range{Lo: 0, Hi: 0}, 0}, {[]int{1, 5, 6}, api.Range{Lo: 2, Hi: 2}, 0}, {[]int{10000}, api.Range{}, 0},
		{append(make([]int, 12), slices.Repeat([]int{10000}, 12)...), api.Range{Lo: 0, Hi: 23}, 120000},
	} {
		if got, e := cloud.SegmentCost(c.profile, c.r); got != c.want || e != api.OK {
			t.Errorf("%v, %v: %d, %d, want %d", c.profile, c.r, got, e, c.want)
		}
	}
}

// P8.4
func TestSegmentCost(t *testing.T) {
	for _, l := range append(shortProfiles(95, 200), (&draws{96}).list(24, 0, 50), (&draws{97}).list(23, 0, 9)) {
		for lo := range l {
			for hi := lo; hi < len(l); hi++ {
				got, e := cloud.SegmentCost(l, api.Range{Lo: lo, Hi: hi})
				if got != segmentCost(l[lo:hi+1]) || e != api.OK {
					t.Fatalf("%v, %d, %d: %d, %d", l, lo, hi, got, e)
				}
			}
		}
	}
}

// P8.4
func TestSegmentCostErrors(t *testing.T) {
	for _, x := range beyond(0, 3) {
		for _, r := range ranges(x, x, x, 3, x, 0, 0, x, 3, x) {
			got, e := cloud.SegmentCost(one(), r)
			expectOnly(t, "missing", got, e, api.ErrMissing)
		}
	}
	for _, r := range ranges(1, 0, 3, 0, 3, 2, 2, 1) {
		got, e := cloud.SegmentCost(one(), r)
		expectOnly(t, "order", got, e, api.ErrOrder)
	}
}

// P8.4, example 6, edge cases
func TestSegmentsOfExamples(t *testing.T) {
	for _, c := range []struct {
		profile    []int
		penalty    int
		starts     []int
		cost       int
		potentials []int
	}{
		{[]int{1, 1, 9, 9}, 3, []int{0, 2}, 6, []int{0, 3, 3, 6, 6}},
		{[]int{1, 1, 9, 9}, 20, []int{0}, 36, []int{0, 20, 20, 28, 36}},
		// As cheap as two segments.
		{[]int{1, 1, 9, 9}, 16, []int{0}, 32, []int{0, 16, 16, 24, 32}}, {[]int{1, 1, 9, 9}, 15, []int{0, 2}, 30, []int{0, 15, 15, 23, 30}},
		// With the penalty 0 the fewest segments of cost 0.
		{[]int{1, 1, 9, 9}, 0, []int{0, 2}, 0, []int{0, 0, 0, 0, 0}}, {[]int{7, 7, 7}, 0, []int{0}, 0, []int{0, 0, 0, 0}}, {[]int{1, 2, 2, 1, 1}, 0, []int{0, 1, 3}, 0, []int{0, 0, 0, 0, 0, 0}},
		// Of several the first indexes.
		{[]int{0, 1, 2}, 0, []int{0, 1, 2}, 0, []int{0, 0, 0, 0}}, {[]int{0, 1, 0}, 1, []int{0}, 2, []int{0, 1, 2, 2}},
		{[]int{0, 0, 5, 10, 10}, 10, []int{0, 2}, 25, []int{0, 10, 10, 15, 25, 25}},
		{[]int{0}, 1000000, []int{0}, 1000000, []int{0, 1000000}}, {[]int{10000}, 0, []int{0}, 0, []int{0, 0}},
	} {
		if starts, cost, e := cloud.SegmentsOf(c.profile, c.penalty); !same(starts, c.starts) || cost != c.cost || e != api.OK {
			t.Errorf("%v, %d: %v, %d, %d, want %v, %d", c.profile, c.penalty, starts, cost, e, c.starts, c.cost)
		}
		if got, e := cloud.PotentialsOf(c.profile, c.penalty); !same(got, c.potentials) || e != api.OK {
			t.Errorf("%v, %d: %v, %d, want %v", c.profile, c.penalty, got, e, c.potentials)
		}
	}
}

// P8.4, P8.11
func TestSegmentsOf(t *testing.T) {
	draw := &draws{98}
	for i, l := range shortProfiles(99, 720) {
		penalty := draw.from(0, []int{1, 3, 20}[i%3])
		starts, cost, e := cloud.SegmentsOf(l, penalty)
		want, least := bestDivision(l, penalty)
		if !same(starts, want) || cost != least || e != api.OK {
			t.Fatalf("%v, %d: %v, %d, %d, want %v, %d", l, penalty, starts, cost, e, want, least)
		}
		potentials, e := cloud.PotentialsOf(l, penalty)
		if len(potentials) != len(l)+1 || potentials[0] != 0 || e != api.OK {
			t.Fatalf("%v, %d: %v, %d", l, penalty, potentials, e)
		}
		for count := 1; count <= len(l); count++ {
			if _, least := bestDivision(l[:count], penalty); potentials[count] != least {
				t.Fatalf("%v, %d: %v, want %d at %d", l, penalty, potentials, least, count)
			}
		}
		if got, e := cloud.CheckPotentials(l, penalty, potentials); got != cost || e != api.OK {
			t.Fatalf("%v, %d, %v: %d, %d, want %d", l, penalty, potentials, got, e, cost)
		}
		fewer, _, e := cloud.SegmentsOf(l, penalty+draw.from(0, 4))
		if len(fewer) > len(starts) || e != api.OK {
			t.Fatalf("%v, %d: %v, but %v, %d for more", l, penalty, starts, fewer, e)
		}
	}
}

// P8.4, P8.11: profiles of all lengths.
func TestLongSegments(t *testing.T) {
	draw := &draws{100}
	for i, l := range profiles(101, 480) {
		penalty := draw.from(0, []int{2, 50, 5000, 1000000}[i%4])
		starts, cost, e := cloud.SegmentsOf(l, penalty)
		if cost != costByCalls(t, l, starts, penalty) || e != api.OK {
			t.Fatalf("%v, %d: %v, %d, %d", l, penalty, starts, cost, e)
		}
		potentials, e := cloud.PotentialsOf(l, penalty)
		if e != api.OK {
			t.Fatalf("%v, %d: %d", l, penalty, e)
		}
		if got, e := cloud.CheckPotentials(l, penalty, potentials); got != cost || e != api.OK {
			t.Fatalf("%v, %d, %v: %d, %d, want %d", l, penalty, potentials, got, e, cost)
		}
		// No other division costs less.
		for range 20 {
			other := []int{0}
			for gate := 1; gate < len(l); gate++ {
				if draw.from(0, 3) == 0 {
					other = append(other, gate)
				}
			}
			if got := costByCalls(t, l, other, penalty); got < cost {
				t.Fatalf("%v, %d: %v costs %d, but %v %d", l, penalty, starts, cost, other, got)
			}
		}
		fewer, _, e := cloud.SegmentsOf(l, draw.from(penalty, 1000000))
		if len(fewer) > len(starts) || e != api.OK {
			t.Fatalf("%v, %d: %v, but %v, %d for more", l, penalty, starts, fewer, e)
		}
	}
}

// costByCalls relies on SegmentCost, which has tests of its own.
func costByCalls(t *testing.T, l, starts []int, penalty int) int {
	t.Helper()
	cost := 0
	for i, end := range append(slices.Clone(starts[1:]), len(l)) {
		x, e := cloud.SegmentCost(l, api.Range{Lo: starts[i], Hi: end - 1})
		expect(t, "SegmentCost", e, api.OK)
		cost += x + penalty
	}
	return cost
}

// P8.4
func TestSegmentsOfErrors(t *testing.T) {
	for _, penalty := range badPenalties() {
		starts, cost, e := cloud.SegmentsOf(one(), penalty)
		expectOnly(t, "SegmentsOf", starts, e, api.ErrRange)
		expectOnly(t, "SegmentsOf", cost, e, api.ErrRange)
		potentials, e := cloud.PotentialsOf(one(), penalty)
		expectOnly(t, "PotentialsOf", potentials, e, api.ErrRange)
		for _, p := range [][]int{nil, {0, 0, 0, 0, 0}, {0, penalty}} {
			potential, e := cloud.CheckPotentials(one(), penalty, p)
			expectOnly(t, "CheckPotentials", potential, e, api.ErrRange)
		}
	}
}

// P8.4, example 6
func TestCheckPotentials(t *testing.T) {
	six := []int{1, 1, 9, 9}
	if got, e := cloud.CheckPotentials(six, 3, []int{0, 3, 3, 6, 6}); got != 6 || e != api.OK {
		t.Errorf("%d, %d", got, e)
	}
	if got, e := cloud.CheckPotentials([]int{0}, 0, []int{0, 0}); got != 0 || e != api.OK {
		t.Errorf("%d, %d", got, e)
	}
	for _, x := range []bad[[]int]{
		{nil, 0, api.ErrShape}, {[]int{0, 3, 3, 6}, 0, api.ErrShape}, {[]int{0, 3, 3, 6, 6, 9}, 0, api.ErrShape}, {[]int{9}, 0, api.ErrShape}, {make([]int, 100000), 0, api.ErrShape},
		{[]int{1, 3, 3, 6, 6}, 0, api.ErrProof}, {[]int{-1, 3, 3, 6, 6}, 0, api.ErrProof}, {[]int{1, 4, 4, 7, 7}, 0, api.ErrProof},
		{[]int{0, 2, 3, 6, 6}, 1, api.ErrProof}, {[]int{0, 4, 3, 6, 6}, 1, api.ErrProof}, {[]int{0, 3, 4, 6, 6}, 2, api.ErrProof}, {[]int{0, 3, 6, 6, 6}, 2, api.ErrProof},
		{[]int{0, 3, 3, 5, 6}, 3, api.ErrProof}, {[]int{0, 3, 3, 7, 7}, 3, api.ErrProof}, {[]int{0, 3, 3, 6, 7}, 4, api.ErrProof}, {[]int{0, 3, 3, 6, 5}, 4, api.ErrProof},
		{[]int{0, 0, 0, 0, 0}, 1, api.ErrProof}, {[]int{0, 3, 3, 0, 0}, 3, api.ErrProof},
		// R2: numbers that overflow.
		{[]int{math.MaxInt, math.MaxInt, math.MaxInt, math.MaxInt, math.MaxInt}, 0, api.ErrProof}, {[]int{0, 3, 3, math.MaxInt, math.MaxInt}, 3, api.ErrProof}, {[]int{0, 3, 3, 6, math.MinInt}, 4, api.ErrProof},
		{[]int{0, math.MinInt, math.MinInt, 6, 6}, 1, api.ErrProof}, {[]int{0, 3 + 1<<32, 3, 6, 6}, 1, api.ErrProof},
	} {
		if i, e := cloud.CheckPotentials(six, 3, x.value); i != x.index || e != x.want {
			t.Errorf("%v: %d, %d, want %d, %d", x.value, i, e, x.index, x.want)
		}
	}
}

// P8.4: each change of a potential is found.
func TestCheckPotentialsChanged(t *testing.T) {
	draw := &draws{102}
	for _, l := range profiles(103, 200) {
		penalty := draw.from(0, 100)
		potentials, _ := cloud.PotentialsOf(l, penalty)
		i := draw.from(0, len(l))
		potentials[i] += []int{-1, 1, 1000, -1000}[draw.from(0, 3)]
		if got, e := cloud.CheckPotentials(l, penalty, potentials); got != i || e != api.ErrProof {
			t.Fatalf("%v, %d, %v: %d, %d, want %d", l, penalty, potentials, got, e, i)
		}
	}
}

// R3, R4: results are new memory, also beyond their ends.
func TestSegmentsMemory(t *testing.T) {
	l := []int{1, 1, 9, 9, 1, 1, 5}
	starts, _, _ := cloud.SegmentsOf(l, 1)
	want := slices.Clone(starts)
	_ = append(starts, 77)
	starts[0] = 9
	if again, _, e := cloud.SegmentsOf(l, 1); !same(again, want) || e != api.OK {
		t.Errorf("%v, %d, want %v", again, e, want)
	}
	potentials, _ := cloud.PotentialsOf(l, 1)
	potentials[0] = 9
	if again, _ := cloud.PotentialsOf(l, 1); again[0] != 0 {
		t.Errorf("%v", again)
	}
}
