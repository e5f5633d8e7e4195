package wind_test

import (
	"math"
	"math/big"
	"slices"
	"testing"

	"glidepath/api"
	"glidepath/wind"
)

func exactly(l ...int) []api.Range {
	var ranges []api.Range
	for _, x := range l {
		ranges = append(ranges, ends(x, x))
	}
	return ranges
}

// P4.6
func TestStructureOf(t *testing.T) {
	long := slices.Repeat([]int{-10000, 10000}, 15)
	for _, x := range []struct {
		numbers []int
		lag     int
		want    api.Frac
	}{
		{[]int{1, 3, 0}, 1, frac(13, 2)},
		{[]int{1, 3, 0}, 2, frac(1, 1)},
		{[]int{5, 5, 5, 5}, 1, frac(0, 1)},
		{[]int{5, 5, 5, 5}, 3, frac(0, 1)},
		{[]int{0, 1, 3, 0}, 1, frac(14, 3)},
		{[]int{0, 1, 3, 1}, 1, frac(3, 1)},
		{[]int{2, 7}, 1, frac(25, 1)},
		{[]int{7, 2}, 1, frac(25, 1)},
		{[]int{1, 2, 4, 8, 16}, 2, frac(63, 1)},
		{[]int{1, 2, 4, 8, 16}, 3, frac(245, 2)},
		// Parts above MaxPart.
		{long, 1, frac(400000000, 1)},
		{append([]int{-10000, 10000, 10000}, make([]int, 27)...), 1, frac(500000000, 29)},
		{append(long[:28:28], 9999, -10000), 1, frac(27*400000000+1+19999*19999, 29)},
		{long, 2, frac(0, 1)},
		{long, 29, frac(400000000, 1)},
	} {
		if s, e := wind.StructureOf(x.numbers, x.lag); e != api.OK || s != x.want {
			t.Error(x, s, e)
		}
		if s, e := wind.StructureIn(exactly(x.numbers...), x.lag); e != api.OK || s.Lo != x.want || s.Hi != x.want {
			t.Error(x, s, e)
		}
	}
}

// P4.6
func TestStructureIn(t *testing.T) {
	for _, x := range []struct {
		ranges []api.Range
		lag    int
		want   api.Span
	}{
		{[]api.Range{ends(1, 2), ends(3, 3), ends(0, 5)}, 1, api.Span{Lo: frac(1, 2), Hi: frac(13, 2)}},
		{[]api.Range{ends(1, 2), ends(3, 3), ends(0, 5)}, 2, api.Span{Lo: frac(0, 1), Hi: frac(16, 1)}},
		{[]api.Range{ends(1, 2), ends(3, 3), ends(0, 5), ends(7, 9)}, 1, api.Span{Lo: frac(5, 3), Hi: frac(94, 3)}},
		{[]api.Range{ends(0, 5), ends(5, 9)}, 1, api.Span{Lo: frac(0, 1), Hi: frac(81, 1)}},
		{[]api.Range{ends(5, 9), ends(0, 5)}, 1, api.Span{Lo: frac(0, 1), Hi: frac(81, 1)}},
		{[]api.Range{ends(5, 9), ends(0, 4)}, 1, api.Span{Lo: frac(1, 1), Hi: frac(81, 1)}},
		{[]api.Range{ends(-7, 1), ends(-1, 2)}, 1, api.Span{Lo: frac(0, 1), Hi: frac(81, 1)}},
		{[]api.Range{ends(-10000, 10000), ends(-10000, 10000)}, 1, api.Span{Lo: frac(0, 1), Hi: frac(400000000, 1)}},
	} {
		if s, e := wind.StructureIn(x.ranges, x.lag); e != api.OK || s != x.want {
			t.Error(x, s, e)
		}
	}
}

// P4.6
func TestStructureErrors(t *testing.T) {
	number := func(l []int, lag int, want api.Errno) {
		t.Helper()
		s, e := wind.StructureOf(l, lag)
		expectOnly(t, "numbers", s, e, want)
	}
	ranges := func(l []api.Range, lag int, want api.Errno) {
		t.Helper()
		s, e := wind.StructureIn(l, lag)
		expectOnly(t, "ranges", s, e, want)
	}
	for _, lag := range []int{-1, 0, 1, 2, 31} {
		number(nil, lag, api.ErrShape)
		number([]int{}, lag, api.ErrShape)
		number(make([]int, 31), lag, api.ErrLarge)
		number(slices.Repeat([]int{10001}, 31), lag, api.ErrLarge)
		ranges(nil, lag, api.ErrShape)
		ranges([]api.Range{}, lag, api.ErrShape)
		ranges(make([]api.Range, 31), lag, api.ErrLarge)
		ranges(slices.Repeat([]api.Range{ends(1, 0)}, 31), lag, api.ErrLarge)
		for _, x := range []int{-10001, 10001, math.MinInt, math.MaxInt} {
			number([]int{x}, lag, api.ErrRange)
			number([]int{10000, -10000, x}, lag, api.ErrRange)
			ranges([]api.Range{ends(0, 0), ends(x, 0)}, lag, api.ErrRange)
			ranges([]api.Range{ends(0, x), ends(1, 0)}, lag, api.ErrRange)
			ranges([]api.Range{ends(0, 0), ends(0, 0), ends(x, x)}, lag, api.ErrRange)
		}
		ranges([]api.Range{ends(0, 0), ends(1, 0), ends(0, 10001)}, lag, api.ErrOrder)
		ranges([]api.Range{ends(10000, -10000)}, lag, api.ErrOrder)
	}
	for _, lag := range []int{-1, 0, 3, 4, math.MinInt, math.MaxInt} {
		number([]int{1, 3, 0}, lag, api.ErrRange)
		ranges(exactly(1, 3, 0), lag, api.ErrRange)
	}
	for _, lag := range []int{-1, 0, 1} {
		number([]int{1}, lag, api.ErrRange)
		ranges(exactly(1), lag, api.ErrRange)
	}
	number(make([]int, 30), 30, api.ErrRange)
	ranges(make([]api.Range, 30), 30, api.ErrRange)
}

func structureBy(l []int, lag int) *big.Rat {
	sum := 0
	for i := lag; i < len(l); i++ {
		sum += (l[i] - l[i-lag]) * (l[i] - l[i-lag])
	}
	return rat(sum, len(l)-lag)
}

func isFrac(x api.Frac, want *big.Rat) bool {
	return int64(x.Num) == want.Num().Int64() && int64(x.Den) == want.Denom().Int64()
}

// P4.6, P4.13
func TestStructuresByTheirDefinition(t *testing.T) {
	d := draws{13}
	for range 300 {
		var l, shifted []int
		var around []api.Range
		shift := d.from(-50, 50)
		for range d.from(2, 30) {
			x := d.from(-40, 40)
			l, shifted = append(l, x), append(shifted, x+shift)
			around = append(around, ends(x-d.from(0, 9), x+d.from(0, 9)))
		}
		lag := d.from(1, len(l)-1)
		want := structureBy(l, lag)
		if s, e := wind.StructureOf(l, lag); e != api.OK || !isFrac(s, want) {
			t.Fatal(l, lag, s, want, e)
		}
		if s, e := wind.StructureOf(shifted, lag); e != api.OK || !isFrac(s, want) {
			t.Fatal(shifted, lag, s, want, e)
		}
		least, most := 0, 0
		for i, x := range around[lag:] {
			small, great := math.MaxInt, 0
			for difference := x.Lo - around[i].Hi; difference <= x.Hi-around[i].Lo; difference++ {
				small, great = min(small, difference*difference), max(great, difference*difference)
			}
			least, most = least+small, most+great
		}
		span, e := wind.StructureIn(around, lag)
		if e != api.OK || !isFrac(span.Lo, rat(least, len(l)-lag)) || !isFrac(span.Hi, rat(most, len(l)-lag)) {
			t.Fatal(around, lag, span, least, most, e)
		}
		if !liesIn(want, rat(span.Lo.Num, span.Lo.Den), rat(span.Hi.Num, span.Hi.Den)) {
			t.Fatal(l, around, lag, span, want)
		}
	}
}
