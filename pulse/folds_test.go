package pulse_test

import (
	"math"
	"slices"
	"testing"

	"glidepath/api"
	"glidepath/pulse"
)

func fold(value, period, off int) api.PulseFold {
	return api.PulseFold{Value: value, Period: period, Off: off}
}

// badFolds are folded speeds with their errors.
var badFolds = []struct {
	folds []api.PulseFold
	want  api.Errno
}{
	{nil, api.ErrShape},
	{[]api.PulseFold{}, api.ErrShape},
	{make([]api.PulseFold, 9), api.ErrLarge},
	{[]api.PulseFold{fold(20001, 1, 0)}, api.ErrRange},
	{[]api.PulseFold{fold(0, 1, 0), fold(-20001, 1, 0)}, api.ErrRange},
	{[]api.PulseFold{fold(0, 0, 0)}, api.ErrRange},
	{[]api.PulseFold{fold(0, -1, 0)}, api.ErrRange},
	{[]api.PulseFold{fold(0, 20001, 0)}, api.ErrRange},
	{[]api.PulseFold{fold(0, 1, -1)}, api.ErrRange},
	{[]api.PulseFold{fold(0, 1, 0), fold(0, 1, 20001)}, api.ErrRange},
	{[]api.PulseFold{fold(math.MinInt, math.MinInt, math.MinInt)}, api.ErrRange},
	{[]api.PulseFold{fold(math.MaxInt, math.MaxInt, math.MaxInt)}, api.ErrRange},
}

func TestFoldErrors(t *testing.T) {
	for _, x := range badFolds {
		for _, limit := range []int{10, -1} {
			l, e := pulse.UnfoldedBy(x.folds, limit)
			expectOnly(t, "unfolded", l, e, x.want)
			l, e = pulse.Contradicting(x.folds, limit)
			expectOnly(t, "contradicting", l, e, x.want)
		}
	}
	for _, limit := range []int{-1, 20001, math.MinInt, math.MaxInt} {
		l, e := pulse.UnfoldedBy([]api.PulseFold{fold(3, 10, 0)}, limit)
		expectOnly(t, "limit", l, e, api.ErrRange)
		l, e = pulse.Contradicting([]api.PulseFold{fold(3, 10, 0)}, limit)
		expectOnly(t, "limit", l, e, api.ErrRange)
	}
}

// P1.5
func TestUnfoldedBy(t *testing.T) {
	for _, x := range []struct {
		folds []api.PulseFold
		limit int
		want  []int
	}{
		{[]api.PulseFold{fold(3, 10, 0), fold(4, 7, 0)}, 40, []int{-17}},
		{[]api.PulseFold{fold(3, 10, 0), fold(4, 7, 0)}, 53, []int{-17, 53}},
		{[]api.PulseFold{fold(3, 10, 0), fold(4, 7, 0)}, 16, nil},
		{[]api.PulseFold{fold(3, 10, 1)}, 13, []int{-8, -7, -6, 2, 3, 4, 12, 13}},
		{[]api.PulseFold{fold(-103, 10, 1)}, 8, []int{-4, -3, -2, 6, 7, 8}},
		{[]api.PulseFold{fold(0, 4, 2)}, 3, []int{-3, -2, -1, 0, 1, 2, 3}},
		{[]api.PulseFold{fold(0, 5, 2)}, 3, []int{-3, -2, -1, 0, 1, 2, 3}},
		{[]api.PulseFold{fold(1, 4, 1)}, 3, []int{-3, -2, 0, 1, 2}},
		{[]api.PulseFold{fold(7, 10, 20000)}, 1, []int{-1, 0, 1}},
		{[]api.PulseFold{fold(5, 10, 0)}, 0, nil},
		{[]api.PulseFold{fold(20, 10, 0)}, 0, []int{0}},
		{[]api.PulseFold{fold(20000, 20000, 0)}, 20000, []int{-20000, 0, 20000}},
		{slices.Repeat([]api.PulseFold{fold(-20000, 20000, 0)}, 8), 1, []int{0}},
	} {
		if l, e := pulse.UnfoldedBy(x.folds, x.limit); e != api.OK || !same(l, x.want) {
			t.Error(x, l, e)
		}
	}
}

// P1.5
func TestContradicting(t *testing.T) {
	for _, x := range []struct {
		folds []api.PulseFold
		limit int
		want  []int
	}{
		{[]api.PulseFold{fold(3, 10, 0), fold(4, 10, 0), fold(4, 7, 0)}, 40, []int{0, 1}},
		{[]api.PulseFold{fold(3, 10, 0), fold(4, 7, 0), fold(4, 10, 0)}, 40, []int{0, 2}},
		{[]api.PulseFold{fold(3, 10, 0), fold(4, 7, 0)}, 16, []int{0, 1}},
		{[]api.PulseFold{fold(0, 10, 0), fold(5, 10, 0)}, 4, []int{1}},
		{[]api.PulseFold{fold(4, 10, 0), fold(5, 10, 0)}, 3, []int{0}},
		{[]api.PulseFold{fold(0, 6, 0), fold(1, 6, 0), fold(2, 6, 0), fold(5, 10, 0)}, 4, []int{3}},
		{[]api.PulseFold{fold(0, 1, 0), fold(0, 2, 0), fold(0, 3, 0), fold(1, 2, 0), fold(1, 3, 0)}, 100, []int{1, 3}},
		// Each two of these fit some speed, all three none.
		{[]api.PulseFold{fold(0, 1, 0), fold(0, 6, 1), fold(2, 6, 1), fold(4, 6, 1)}, 100, []int{1, 2, 3}},
		{[]api.PulseFold{fold(1, 8, 2), fold(5, 8, 2), fold(0, 1, 0), fold(0, 1, 0), fold(0, 1, 0), fold(0, 1, 0), fold(0, 1, 0), fold(4, 8, 0)}, 100, []int{0, 7}},
	} {
		if l, e := pulse.Contradicting(x.folds, x.limit); e != api.OK || !same(l, x.want) {
			t.Error(x, l, e)
		}
	}
	for _, folds := range [][]api.PulseFold{
		{fold(3, 10, 0)},
		{fold(3, 10, 0), fold(4, 7, 0)},
		slices.Repeat([]api.PulseFold{fold(20000, 20000, 0)}, 8),
	} {
		l, e := pulse.Contradicting(folds, 17)
		expectOnly(t, "none", l, e, api.ErrNone)
	}
}

func fitsAll(folds []api.PulseFold, speed int) bool {
	for _, x := range folds {
		isFit := false
		for m := -1000; m <= 1000; m++ {
			away := x.Value + m*x.Period - speed
			isFit = isFit || -x.Off <= away && away <= x.Off
		}
		if !isFit {
			return false
		}
	}
	return true
}

func TestUnfoldedByItsDefinition(t *testing.T) {
	n := numbers{5}
	for range 50 {
		folds := make([]api.PulseFold, n.from(1, 3))
		for i := range folds {
			folds[i] = fold(n.from(-30, 30), n.from(1, 12), n.from(0, 3))
		}
		var want []int
		limit := n.from(0, 20)
		for speed := -limit; speed <= limit; speed++ {
			if fitsAll(folds, speed) {
				want = append(want, speed)
			}
		}
		if l, e := pulse.UnfoldedBy(folds, limit); e != api.OK || !same(l, want) {
			t.Fatal(folds, limit, l, want, e)
		}
	}
}

// P1.13
func TestTrueSpeedFits(t *testing.T) {
	n := numbers{13}
	for range 100 {
		speed, limit := n.from(-300, 300), n.from(300, 2000)
		var folds []api.PulseFold
		var before []int
		for range n.from(1, api.MaxPulseFolds) {
			period, off := n.from(1, 100), n.from(0, 5)
			folds = append(folds, fold(speed+period*n.from(-9, 9)+n.from(-off, off), period, off))
			speeds, e := pulse.UnfoldedBy(folds, limit)
			if e != api.OK || !slices.Contains(speeds, speed) || !slices.IsSorted(speeds) {
				t.Fatal(folds, speed, speeds, e)
			}
			for _, x := range speeds {
				if before != nil && !slices.Contains(before, x) {
					t.Fatal(folds, x, before)
				}
			}
			before = speeds
		}
		_, e := pulse.Contradicting(folds, limit)
		expect(t, "of a true speed", e, api.ErrNone)
	}
}

// subsets are those of the indexes below n, by size and then lexicographically.
func subsets(n int) [][]int {
	var all [][]int
	for s := range 1 << n {
		var set []int
		for i := range n {
			if s>>i&1 == 1 {
				set = append(set, i)
			}
		}
		all = append(all, set)
	}
	slices.SortFunc(all, func(a, b []int) int {
		if len(a) != len(b) {
			return len(a) - len(b)
		}
		return slices.Compare(a, b)
	})
	return all
}

// P1.13
func TestMinimumContradiction(t *testing.T) {
	n := numbers{131}
	sizes := map[int]int{}
	for range 200 {
		folds := make([]api.PulseFold, n.from(1, 5))
		for i := range folds {
			folds[i] = fold(n.from(-30, 30), n.from(2, 12), n.from(0, 4))
		}
		limit := n.from(0, 40)
		var want []int
		for _, set := range subsets(len(folds))[1:] {
			var chosen []api.PulseFold
			for _, i := range set {
				chosen = append(chosen, folds[i])
			}
			if l, _ := pulse.UnfoldedBy(chosen, limit); len(l) == 0 {
				want = set
				break
			}
		}
		got, e := pulse.Contradicting(folds, limit)
		if !same(got, want) || (e == api.ErrNone) != (want == nil) || e != api.OK && e != api.ErrNone {
			t.Fatal(folds, limit, got, want, e)
		}
		sizes[len(want)]++
	}
	for size := range 4 {
		if sizes[size] == 0 {
			t.Error("no case of the size", size)
		}
	}
}
