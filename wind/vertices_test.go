package wind_test

import (
	"math/big"
	"slices"
	"testing"

	"glidepath/api"
	"glidepath/wind"
)

// point is three readings of one number each.
func point(x, y, z int) []api.WindReading {
	return readings(reading(1, 0, 0, x, x), reading(0, 1, 0, y, y), reading(0, 0, 1, z, z))
}

// half is that of the example with fractions.
func half() []api.WindReading {
	return readings(reading(2, 0, 0, 1, 2), reading(0, 1, 0, 0, 0), reading(0, 0, 1, 0, 0))
}

// P4.3
func TestVerticesOf(t *testing.T) {
	for _, x := range []struct {
		readings []api.WindReading
		want     []api.WindVector
	}{
		{r(), []api.WindVector{vector(3, 0, 0, 1), vector(3, 0, 2, 1), vector(5, 0, 0, 1), vector(5, 0, 2, 1)}},
		{half(), []api.WindVector{vector(1, 0, 0, 2), vector(1, 0, 0, 1)}},
		{point(7, -8, 9), []api.WindVector{vector(7, -8, 9, 1)}},
		{point(0, 0, 0), []api.WindVector{vector(0, 0, 0, 1)}},
		// A reading that cuts off a vertex, and one that meets only one.
		{r(reading(1, 0, 1, 0, 6)), []api.WindVector{vector(3, 0, 0, 1), vector(3, 0, 2, 1), vector(4, 0, 2, 1), vector(5, 0, 0, 1), vector(5, 0, 1, 1)}},
		{r(reading(1, 0, 1, 7, 9)), []api.WindVector{vector(5, 0, 2, 1)}},
		{r(reading(2, 0, 2, 7, 7)), []api.WindVector{vector(6, 0, 1, 2), vector(7, 0, 0, 2)}},
		// The same reading again.
		{r(r()...), []api.WindVector{vector(3, 0, 0, 1), vector(3, 0, 2, 1), vector(5, 0, 0, 1), vector(5, 0, 2, 1)}},
		// Parts below 0, and fractions that are ordered across their denominators.
		{
			readings(reading(-3, 0, 0, 1, 2), reading(0, 2, 0, -1, 1), reading(0, 0, -5, -1, 0)),
			[]api.WindVector{
				vector(-4, -3, 0, 6), vector(-20, -15, 6, 30), vector(-4, 3, 0, 6), vector(-20, 15, 6, 30),
				vector(-2, -3, 0, 6), vector(-10, -15, 6, 30), vector(-2, 3, 0, 6), vector(-10, 15, 6, 30),
			},
		},
	} {
		if l, e := wind.VerticesOf(x.readings); e != api.OK || !same(l, x.want) {
			t.Error(x.readings, l, e)
		}
	}
	for _, l := range [][]api.WindReading{
		r(reading(1, 0, 0, 6, 6)),
		r(reading(1, 0, 1, 8, 9)),
		r(reading(-1, 0, 0, 3, 5)),
		append(point(1, 2, 3), reading(1, 1, 1, 7, 9)),
		append(half(), reading(4, 0, 0, 5, 9)),
	} {
		vertices, e := wind.VerticesOf(l)
		expectOnly(t, "none", vertices, e, api.ErrNone)
		box, e := wind.BoxOf(l)
		expectOnly(t, "none", box, e, api.ErrNone)
		span, e := wind.RangeIn(l, [3]int{1, 0, 0})
		expectOnly(t, "none", span, e, api.ErrNone)
		headwind, e := wind.HeadwindIn(l, [3]int{1, 0, 0})
		expectOnly(t, "none", headwind, e, api.ErrNone)
	}
}

// P4.3
func TestRangeIn(t *testing.T) {
	for _, x := range []struct {
		readings  []api.WindReading
		direction [3]int
		span      api.Span
		headwind  api.Range
	}{
		{r(), [3]int{1, 0, 1}, api.Span{Lo: frac(3, 1), Hi: frac(7, 1)}, ends(3, 7)},
		{r(), [3]int{-1, 0, -1}, api.Span{Lo: frac(-7, 1), Hi: frac(-3, 1)}, ends(-7, -3)},
		{r(), [3]int{2, 9, -3}, api.Span{Lo: frac(0, 1), Hi: frac(10, 1)}, ends(0, 10)},
		{r(), [3]int{0, -9, 0}, api.Span{Lo: frac(0, 1), Hi: frac(0, 1)}, ends(0, 0)},
		{half(), [3]int{1, 0, 0}, api.Span{Lo: frac(1, 2), Hi: frac(1, 1)}, ends(0, 1)},
		{half(), [3]int{-1, 0, 0}, api.Span{Lo: frac(-1, 1), Hi: frac(-1, 2)}, ends(-1, 0)},
		{half(), [3]int{-3, 5, 7}, api.Span{Lo: frac(-3, 1), Hi: frac(-3, 2)}, ends(-3, -1)},
		{half(), [3]int{5, 0, 0}, api.Span{Lo: frac(5, 2), Hi: frac(5, 1)}, ends(2, 5)},
		{point(-7, 8, 9), [3]int{9, 9, 9}, api.Span{Lo: frac(90, 1), Hi: frac(90, 1)}, ends(90, 90)},
		{r(reading(3, 0, 3, 10, 11)), [3]int{1, 0, 1}, api.Span{Lo: frac(10, 3), Hi: frac(11, 3)}, ends(3, 4)},
		{
			readings(reading(1, 0, 0, -10000, 10000), reading(0, 1, 0, -10000, 10000), reading(0, 0, 1, -10000, 10000)),
			[3]int{9, -9, 9},
			api.Span{Lo: frac(-270000, 1), Hi: frac(270000, 1)},
			ends(-270000, 270000),
		},
	} {
		if s, e := wind.RangeIn(x.readings, x.direction); e != api.OK || s != x.span {
			t.Error(x, s, e)
		}
		if h, e := wind.HeadwindIn(x.readings, x.direction); e != api.OK || h != x.headwind {
			t.Error(x, h, e)
		}
	}
}

// P4.3
func TestRangeErrors(t *testing.T) {
	check := func(l []api.WindReading, direction [3]int, want api.Errno) {
		t.Helper()
		span, e := wind.RangeIn(l, direction)
		expectOnly(t, "range", span, e, want)
		headwind, e := wind.HeadwindIn(l, direction)
		expectOnly(t, "headwind", headwind, e, want)
	}
	for _, x := range badReadings() {
		check(x.readings, [3]int{1, 0, 0}, x.want)
		check(x.readings, [3]int{10, 0, 0}, x.want)
		check(x.readings, [3]int{}, x.want)
	}
	for _, x := range badDirections {
		check(r(), x.direction, x.want)
		check(plane(), x.direction, x.want)
		check(r(reading(1, 0, 0, 6, 6)), x.direction, x.want)
	}
	// Of readings that are open and have no wind they are said to be open.
	check(readings(reading(1, 0, 0, 0, 0), reading(1, 0, 0, 1, 1)), [3]int{1, 0, 0}, api.ErrOpen)
}

// P4.3
func TestBoxOf(t *testing.T) {
	for _, x := range []struct {
		readings []api.WindReading
		want     api.WindBox
	}{
		{r(), api.WindBox{X: ends(3, 5), Z: ends(0, 2)}},
		{half(), api.WindBox{X: ends(0, 1)}},
		{point(-7, 8, 9), api.WindBox{X: ends(-7, -7), Y: ends(8, 8), Z: ends(9, 9)}},
		{readings(reading(-3, 0, 0, 1, 2), reading(0, 2, 0, -1, 1), reading(0, 0, -5, -1, 0)), api.WindBox{X: ends(-1, 0), Y: ends(-1, 1), Z: ends(0, 1)}},
		{readings(reading(3, 0, 0, -4, -4), reading(0, 3, 0, 4, 4), reading(0, 0, 3, -3, 3)), api.WindBox{X: ends(-2, -1), Y: ends(1, 2), Z: ends(-1, 1)}},
	} {
		if b, e := wind.BoxOf(x.readings); e != api.OK || b != x.want {
			t.Error(x, b, e)
		}
	}
}

// P4.3
func TestHasWind(t *testing.T) {
	for _, x := range []struct {
		readings []api.WindReading
		wind     api.WindVector
		want     bool
	}{
		{r(), vector(3, 0, 0, 1), true},
		{r(), vector(5, 0, 2, 1), true},
		{r(), vector(9, 0, 1, 2), true},
		{r(), vector(2, 0, 0, 1), false},
		{r(), vector(6, 0, 0, 1), false},
		{r(), vector(4, 1, 0, 1000000000), false},
		{r(), vector(4000000000, 1, 0, 1000000000), false},
		{r(), vector(5000000000, 0, 1999999999, 1000000000), true},
		{r(), vector(5000000001, 0, 1999999999, 1000000000), false},
		{r(), vector(2999999999, 0, 0, 1000000000), false},
		{r(), vector(4, 0, -1, 1), false},
		{r(), vector(4, 0, 3, 1), false},
		// Readings of a smaller rank, and some that contradict each other.
		{plane(), vector(0, 0, 1000000000000, 1), true},
		{plane(), vector(1, 1, -1000000000000, 1), true},
		{plane(), vector(1, 0, 5, 1), false},
		{readings(reading(9, 9, 9, 10000, 10000)), vector(1000000000000, 1000000000000, 1000000000000, 1), false},
		{readings(reading(9, -9, 0, 9, 9)), vector(1000000000000, 999999999999, 0, 1), true},
		{readings(reading(9, 9, 9, -10000, 10000)), vector(-370370370370, -370370370370, -370370370369, 1000000000), true},
		{readings(reading(9, 9, 9, -10000, 10000)), vector(-370370370370, -370370370370, -370370370373, 1000000000), false},
		{r(reading(1, 0, 0, 6, 6)), vector(5, 0, 0, 1), false},
		{r(reading(1, 0, 0, 6, 6)), vector(6, 0, 0, 1), false},
	} {
		if is, e := wind.HasWind(x.readings, x.wind); e != api.OK || is != x.want {
			t.Error(x, is, e)
		}
	}
	for _, x := range badWinds {
		for _, l := range [][]api.WindReading{r(), plane()} {
			is, e := wind.HasWind(l, x.wind)
			expectOnly(t, "wind", is, e, x.want)
		}
	}
	for _, x := range badReadings() {
		for _, v := range []api.WindVector{vector(4, 0, 1, 1), vector(0, 0, 0, 0)} {
			is, e := wind.HasWind(x.readings, v)
			expectOnly(t, "readings", is, e, x.want)
		}
	}
}

// crossing is the wind that has three products with three independent directions.
func crossing(a, b, c [3]int, products [3]int) [3]*big.Rat {
	var v [3]*big.Rat
	for k := range v {
		with := [3][3]int{a, b, c}
		for i := range with {
			with[i][k] = products[i]
		}
		v[k] = rat(product(with[0], cross(with[1], with[2])), product(a, cross(b, c)))
	}
	return v
}

// verticesBy tries all triples, in all orders, with all ends.
func verticesBy(l []api.WindReading) [][3]*big.Rat {
	var all [][3]*big.Rat
	for _, a := range l {
		for _, b := range l {
			for _, c := range l {
				if product(a.Direction, cross(b.Direction, c.Direction)) == 0 {
					continue
				}
				for _, x := range []int{a.Value.Lo, a.Value.Hi} {
					for _, y := range []int{b.Value.Lo, b.Value.Hi} {
						for _, z := range []int{c.Value.Lo, c.Value.Hi} {
							if v := crossing(a.Direction, b.Direction, c.Direction, [3]int{x, y, z}); agrees(l, v) {
								all = append(all, v)
							}
						}
					}
				}
			}
		}
	}
	slices.SortFunc(all, compare)
	return slices.CompactFunc(all, func(a, b [3]*big.Rat) bool { return compare(a, b) == 0 })
}

func compare(a, b [3]*big.Rat) int {
	for k := range 3 {
		if c := a[k].Cmp(b[k]); c != 0 {
			return c
		}
	}
	return 0
}

// P4.3
func TestVerticesByTheirDefinition(t *testing.T) {
	d := draws{3}
	counts := map[int]int{}
	for n := range 500 {
		l := d.readings(d.from(3, 6), 1+n%9, []int{5, 300, 10000}[n%3])
		want := verticesBy(l)
		got, e := wind.VerticesOf(l)
		if rankBy(directionsOf(l)) < 3 {
			expectOnly(t, "open", got, e, api.ErrOpen)
			continue
		}
		counts[min(len(want), 1)]++
		if len(want) == 0 {
			expectOnly(t, "none", got, e, api.ErrNone)
			continue
		}
		if e != api.OK || len(got) != len(want) {
			t.Fatal(l, got, want, e)
		}
		for i, v := range got {
			if v.Den < 1 || isDivided(v.Den, v.X, v.Y, v.Z) || compare(partsOf(v), want[i]) != 0 {
				t.Fatal(l, got, want)
			}
			if is, e := wind.HasWind(l, v); e != api.OK || !is {
				t.Fatal(l, v, is, e)
			}
		}
	}
	if counts[0] < 50 || counts[1] < 50 {
		t.Error("too few cases", counts)
	}
}

// downTo is the greatest whole number that is not above a fraction.
func downTo(x *big.Rat) int {
	down := new(big.Int).Div(x.Num(), x.Denom())
	return int(down.Int64())
}

func upFrom(x *big.Rat) int {
	return -downTo(new(big.Rat).Neg(x))
}

// P4.3, P4.9
func TestRangesByElimination(t *testing.T) {
	d := draws{9}
	count := 0
	for n := range 120 {
		l := d.around([3]int{d.from(-20, 20), d.from(-20, 20), d.from(-20, 20)}, d.from(3, 5), 1+n%4, 6)
		direction := d.direction(4)
		span, e := wind.RangeIn(l, direction)
		if rankBy(directionsOf(l)) < 3 {
			expectOnly(t, "open", span, e, api.ErrOpen)
			continue
		}
		count++
		lo, hi := rat(span.Lo.Num, span.Lo.Den), rat(span.Hi.Num, span.Hi.Den)
		if e != api.OK || isDivided(span.Lo.Num, span.Lo.Den) || isDivided(span.Hi.Num, span.Hi.Den) || span.Lo.Den < 1 || span.Hi.Den < 1 {
			t.Fatal(l, direction, span, e)
		}
		for _, x := range []struct {
			bound
			isPossible bool
		}{
			{boundBy(direction, 1, lo, false), true},
			{boundBy(direction, 1, lo, true), false},
			{boundBy(direction, -1, new(big.Rat).Neg(hi), false), true},
			{boundBy(direction, -1, new(big.Rat).Neg(hi), true), false},
		} {
			if is := isPossible(append(boundsOf(l), x.bound)); is != x.isPossible {
				t.Fatal(l, direction, span, x)
			}
		}
		if h, e := wind.HeadwindIn(l, direction); e != api.OK || h != ends(downTo(lo), upFrom(hi)) {
			t.Fatal(l, direction, span, h, e)
		}
		isEnd := [2]bool{}
		vertices, _ := wind.VerticesOf(l)
		for _, v := range vertices {
			isEnd[0] = isEnd[0] || along(partsOf(v), direction).Cmp(lo) == 0
			isEnd[1] = isEnd[1] || along(partsOf(v), direction).Cmp(hi) == 0
		}
		if isEnd != [2]bool{true, true} {
			t.Fatal(l, direction, span, vertices)
		}
	}
	if count < 60 {
		t.Error("too few cases", count)
	}
}

func liesIn(x *big.Rat, lo, hi *big.Rat) bool { return x.Cmp(lo) >= 0 && x.Cmp(hi) <= 0 }

func liesInBox(v [3]*big.Rat, b api.WindBox) bool {
	for k, x := range []api.Range{b.X, b.Y, b.Z} {
		if !liesIn(v[k], whole(x.Lo), whole(x.Hi)) {
			return false
		}
	}
	return true
}

// P4.9
func TestNoWindIsLeftOut(t *testing.T) {
	d := draws{90}
	count := 0
	for n := range 300 {
		l := d.around([3]int{d.from(-9, 9), d.from(-9, 9), d.from(-9, 9)}, d.from(3, 6), 1+n%5, 30)
		if rankBy(directionsOf(l)) < 3 {
			continue
		}
		box, e := wind.BoxOf(l)
		expect(t, "box", e, api.OK)
		for k, x := range []api.Range{box.X, box.Y, box.Z} {
			axis := [3]int{}
			axis[k] = 1
			if h, e := wind.HeadwindIn(l, axis); e != api.OK || h != x {
				t.Fatal(l, box, h, e)
			}
		}
		for range 30 {
			v := vector(d.from(-60, 60), d.from(-60, 60), d.from(-60, 60), 4)
			is, e := wind.HasWind(l, v)
			if isDivided(v.X, v.Y, v.Z, v.Den) {
				expectOnly(t, "form", is, e, api.ErrForm)
				continue
			}
			if e != api.OK || is != agrees(l, partsOf(v)) {
				t.Fatal(l, v, is, e)
			}
			if !is {
				continue
			}
			count++
			direction := d.direction(9)
			span, e := wind.RangeIn(l, direction)
			inSpan := liesIn(along(partsOf(v), direction), rat(span.Lo.Num, span.Lo.Den), rat(span.Hi.Num, span.Hi.Den))
			if e != api.OK || !inSpan || !liesInBox(partsOf(v), box) {
				t.Fatal(l, v, direction, span, box, e)
			}
		}
	}
	if count < 100 {
		t.Error("too few cases", count)
	}
}

// P4.9
func TestMoreReadingsNarrow(t *testing.T) {
	d := draws{99}
	count := 0
	for n := range 300 {
		v := [3]int{d.from(-9, 9), d.from(-9, 9), d.from(-9, 9)}
		l := d.around(v, d.from(3, 5), 1+n%4, 20)
		direction := d.direction(9)
		before, e := wind.RangeIn(l, direction)
		if e != api.OK {
			continue
		}
		count++
		narrow := slices.Clone(l)
		i := d.from(0, len(l)-1)
		value := product(v, narrow[i].Direction)
		narrow[i].Value = ends(d.from(narrow[i].Value.Lo, value), d.from(value, narrow[i].Value.Hi))
		for _, more := range [][]api.WindReading{append(slices.Clone(l), d.around(v, 1, 9, 20)...), narrow} {
			after, e := wind.RangeIn(more, direction)
			lo, hi := rat(before.Lo.Num, before.Lo.Den), rat(before.Hi.Num, before.Hi.Den)
			if e != api.OK || !liesIn(rat(after.Lo.Num, after.Lo.Den), lo, hi) || !liesIn(rat(after.Hi.Num, after.Hi.Den), lo, hi) {
				t.Fatal(l, more, direction, before, after, e)
			}
		}
	}
	if count < 150 {
		t.Error("too few cases", count)
	}
}
