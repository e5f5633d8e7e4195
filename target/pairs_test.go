package target_test

import (
	"slices"
	"testing"

	"glidepath/api"
	"glidepath/target"
)

// answer looks at the limit as a range from its opposite to it: whether a difference lies in it,
// or does not meet it.
func answer(x api.TargetPair, limit int) int {
	lo, hi := x.Lidar.Lo-x.Other.Hi, x.Lidar.Hi-x.Other.Lo
	if max(lo, -lo) <= limit && max(hi, -hi) <= limit {
		return 2
	}
	if max(lo, -limit) > min(hi, limit) {
		return 0
	}
	return 1
}

func somePairs(seed uint64, count int) [][]api.TargetPair {
	draw := &draws{seed}
	l := [][]api.TargetPair{six(), {{}}, {pair(-10000, 10000, -10000, 10000)}, slices.Repeat([]api.TargetPair{pair(10000, 10000, -10000, -10000)}, 20)}
	for i := range count {
		l = append(l, draw.pairs(1+i%20, []int{3, 20, 10000}[i/20%3], []int{0, 4, 3000}[i/60%3]))
	}
	return l
}

// P9.4, example 6
func TestAgreementOfExamples(t *testing.T) {
	for _, c := range []struct {
		pairs []api.TargetPair
		limit int
		want  [3]int
	}{
		{six(), 2, [3]int{1, 0, 1}}, {six(), 1, [3]int{1, 1, 0}}, {six(), 0, [3]int{1, 1, 0}}, {six(), 5, [3]int{1, 0, 1}}, {six(), 6, [3]int{0, 1, 1}}, {six(), 7, [3]int{0, 1, 1}}, {six(), 8, [3]int{0, 0, 2}}, {six(), 10000, [3]int{0, 0, 2}},
		// The difference -5 to -3.
		{[]api.TargetPair{pair(0, 1, 4, 5)}, 2, [3]int{1, 0, 0}}, {[]api.TargetPair{pair(0, 1, 4, 5)}, 3, [3]int{0, 1, 0}}, {[]api.TargetPair{pair(0, 1, 4, 5)}, 4, [3]int{0, 1, 0}}, {[]api.TargetPair{pair(0, 1, 4, 5)}, 5, [3]int{0, 0, 1}},
		// The difference -2 to 3: no limit excludes it.
		{[]api.TargetPair{pair(0, 3, 0, 2)}, 0, [3]int{0, 1, 0}}, {[]api.TargetPair{pair(0, 3, 0, 2)}, 2, [3]int{0, 1, 0}}, {[]api.TargetPair{pair(0, 3, 0, 2)}, 3, [3]int{0, 0, 1}}, {[]api.TargetPair{pair(0, 2, 0, 3)}, 2, [3]int{0, 1, 0}},
		{[]api.TargetPair{pair(7, 7, 7, 7)}, 0, [3]int{0, 0, 1}}, {[]api.TargetPair{pair(7, 7, 6, 6)}, 0, [3]int{1, 0, 0}}, {[]api.TargetPair{pair(6, 6, 7, 7)}, 0, [3]int{1, 0, 0}},
		{[]api.TargetPair{pair(10000, 10000, -10000, -10000)}, 10000, [3]int{1, 0, 0}}, {[]api.TargetPair{pair(-10000, -10000, 10000, 10000)}, 10000, [3]int{1, 0, 0}}, {[]api.TargetPair{pair(-10000, 10000, -10000, 10000)}, 10000, [3]int{0, 1, 0}}, {[]api.TargetPair{pair(10000, 10000, 0, 0)}, 10000, [3]int{0, 0, 1}},
	} {
		if got, e := target.AgreementOf(c.pairs, c.limit); got != c.want || e != api.OK {
			t.Errorf("%v, %d: %v, %d, want %v", c.pairs, c.limit, got, e, c.want)
		}
	}
}

// P9.4, P9.12
func TestAgreementOf(t *testing.T) {
	for _, l := range somePairs(931, 500) {
		kept := slices.Clone(l)
		before := [3]int{len(l), 0, 0}
		for _, limit := range []int{0, 1, 2, 3, 5, 8, 20, 100, 1000, 5000, 9999, 10000} {
			var want [3]int
			for _, x := range l {
				want[answer(x, limit)]++
			}
			got, e := target.AgreementOf(l, limit)
			if got != want || e != api.OK {
				t.Fatalf("%v, %d: %v, %d, want %v", l, limit, got, e, want)
			}
			if got[0]+got[1]+got[2] != len(l) || got[api.AnswerNo] > before[api.AnswerNo] || got[api.AnswerYes] < before[api.AnswerYes] {
				t.Fatalf("%v, %d: %v after %v", l, limit, got, before)
			}
			before = got
		}
		if !slices.Equal(l, kept) {
			t.Fatalf("%v changed from %v", l, kept)
		}
	}
}

// P9.4, example 6
func TestBiasOfExamples(t *testing.T) {
	for _, c := range []struct {
		pairs  []api.TargetPair
		lo, hi api.Frac
	}{
		{six(), frac(3, 1), frac(5, 1)}, {six()[:1], frac(0, 1), frac(2, 1)}, {[]api.TargetPair{{}}, frac(0, 1), frac(0, 1)}, {[]api.TargetPair{pair(0, 1, 0, 0), {}, {}}, frac(0, 1), frac(1, 3)},
		{[]api.TargetPair{pair(0, 0, 0, 1), {}}, frac(-1, 2), frac(0, 1)}, {slices.Repeat([]api.TargetPair{pair(10000, 10000, -10000, -10000)}, 20), frac(20000, 1), frac(20000, 1)}, {append(make([]api.TargetPair, 19), pair(-1, 6, 0, 0)), frac(-1, 20), frac(3, 10)},
	} {
		if got, e := target.BiasOf(c.pairs); got != (api.Span{Lo: c.lo, Hi: c.hi}) || e != api.OK {
			t.Errorf("%v: %v, %d", c.pairs, got, e)
		}
	}
}

// P9.4
func TestBiasOf(t *testing.T) {
	for _, l := range somePairs(932, 500) {
		kept := slices.Clone(l)
		lo, hi := rat(0, 1), rat(0, 1)
		for _, x := range l {
			lo.Add(lo, rat(x.Lidar.Lo-x.Other.Hi, len(l)))
			hi.Add(hi, rat(x.Lidar.Hi-x.Other.Lo, len(l)))
		}
		want := api.Span{Lo: frac(int(lo.Num().Int64()), int(lo.Denom().Int64())), Hi: frac(int(hi.Num().Int64()), int(hi.Denom().Int64()))}
		if got, e := target.BiasOf(l); got != want || e != api.OK || !slices.Equal(l, kept) {
			t.Fatalf("%v: %v, %d, want %v", kept, got, e, want)
		}
	}
}

// P9.4
func TestPairsErrors(t *testing.T) {
	for _, x := range badPairs() {
		bias, e := target.BiasOf(x.value)
		expectOnly(t, "BiasOf", bias, e, x.want)
		for _, limit := range []int{0, -1} {
			counts, e := target.AgreementOf(x.value, limit)
			expectOnly(t, "AgreementOf", counts, e, x.want)
		}
	}
	for _, limit := range beyond(0, 10000) {
		counts, e := target.AgreementOf(six(), limit)
		expectOnly(t, "limit", counts, e, api.ErrRange)
	}
}
