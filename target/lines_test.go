package target_test

import (
	"math/big"
	"slices"
	"testing"

	"glidepath/api"
	"glidepath/target"
)

// slopeOf finds the best line from the means, as a slope and a value at the distance 0.
func slopeOf(l []api.TargetReading) (*big.Rat, *big.Rat) {
	count, d, v := len(l), 0, 0
	for _, x := range l {
		d += x.Distance
		v += x.Reading
	}
	above, below := new(big.Rat), new(big.Rat)
	for _, x := range l {
		apart := new(big.Rat).Sub(rat(x.Distance, 1), rat(d, count))
		below.Add(below, new(big.Rat).Mul(apart, apart))
		above.Add(above, new(big.Rat).Mul(apart, new(big.Rat).Sub(rat(x.Reading, 1), rat(v, count))))
	}
	slope := new(big.Rat).Quo(above, below)
	return slope, new(big.Rat).Sub(rat(v, count), new(big.Rat).Mul(slope, rat(d, count)))
}

// squares adds up the squares of the differences of readings and a line.
func squares(l []api.TargetReading, slope, start *big.Rat) *big.Rat {
	sum := new(big.Rat)
	for _, x := range l {
		value := new(big.Rat).Add(new(big.Rat).Mul(slope, rat(x.Distance, 1)), start)
		value.Sub(value, rat(x.Reading, 1))
		sum.Add(sum, value.Mul(value, value))
	}
	return sum
}

// someApart are readings that have a line.
func someApart(seed uint64, count int) [][]api.TargetReading {
	draw := &draws{seed}
	l := [][]api.TargetReading{r(), two(), slices.Concat(slices.Repeat([]api.TargetReading{reading(0, 2000, 0)}, 4), slices.Repeat([]api.TargetReading{reading(2000, 2000, 0)}, 4)), append(slices.Repeat([]api.TargetReading{reading(2000, 0, 0)}, 7), reading(0, 2000, 0))}
	for i := range count {
		l = append(l, draw.apart(2+i%7, []int{0, 3, 40, 2000}[i/7%4], 9))
	}
	return l
}

func isLowest(x api.TargetLine) bool { return x.Den > 0 && divisorOf(x) == 1 }

// P9.2, example 2, edge cases
func TestLineOfExamples(t *testing.T) {
	type list = []api.TargetReading
	for _, c := range []struct {
		readings list
		want     api.TargetLine
		residual api.Frac
	}{
		{two(), line(2, 7, 1), frac(3, 2)},
		{list{reading(0, 5, 0), reading(1, 5, 0)}, line(1, 0, 5), frac(0, 1)}, {list{reading(0, 0, 0), reading(1, 0, 0)}, line(1, 0, 0), frac(0, 1)},
		{list{reading(0, 7, 0), reading(2, 4, 0)}, line(2, -3, 14), frac(0, 1)}, {list{reading(3, 0, 1000), reading(6, 1, 0)}, line(3, 1, -3), frac(0, 1)},
		{list{reading(1999, 0, 0), reading(2000, 2000, 0)}, line(1, 2000, -3998000), frac(0, 1)}, {list{reading(2000, 0, 0), reading(1999, 2000, 0)}, line(1, -2000, 4000000), frac(0, 1)},
		{list{reading(0, 0, 0), reading(0, 2, 0), reading(1, 3, 0)}, line(1, 2, 1), frac(2, 1)}, {list{reading(0, 0, 0), reading(1, 1, 0), reading(2, 0, 0)}, line(3, 0, 1), frac(2, 3)},
		{list{reading(100, 203, 2), reading(500, 1003, 1), reading(900, 1803, 3)}, line(1, 2, 3), frac(0, 1)},
		// A large denominator.
		{append(slices.Repeat(list{reading(0, 0, 0)}, 4), reading(1, 0, 0), reading(2000, 0, 0), reading(2000, 0, 0), reading(1999, 1, 0)), line(29984008, 4996, 1001), frac(19996003, 29984008)},
	} {
		best, e := target.LineOf(c.readings)
		if best != c.want || e != api.OK {
			t.Errorf("%v: %v, %d, want %v", c.readings, best, e, c.want)
		}
		if i, e := target.CheckLine(c.readings, c.want); i != 0 || e != api.OK {
			t.Errorf("%v, %v: %d, %d", c.readings, c.want, i, e)
		}
		if residual, e := target.ResidualOf(c.readings); residual != c.residual || e != api.OK {
			t.Errorf("%v: %v, %d, want %v", c.readings, residual, e, c.residual)
		}
	}
}

// P9.2, P9.8
func TestLineOf(t *testing.T) {
	for _, l := range someApart(911, 1500) {
		slope, start := slopeOf(l)
		best, e := target.LineOf(l)
		if e != api.OK || !isLowest(best) || rat(best.Scale, best.Den).Cmp(slope) != 0 || rat(best.Offset, best.Den).Cmp(start) != 0 {
			t.Fatalf("%v: %v, %d, want %v, %v", l, best, e, slope, start)
		}
		if i, e := target.CheckLine(l, best); i != 0 || e != api.OK {
			t.Fatalf("%v, %v: %d, %d", l, best, i, e)
		}
	}
}

// P9.2
func TestResidualOf(t *testing.T) {
	larges := 0
	for _, l := range someApart(912, 1500) {
		slope, start := slopeOf(l)
		want := squares(l, slope, start)
		residual, e := target.ResidualOf(l)
		if most := big.NewInt(1000000000); want.Num().Cmp(most) > 0 || want.Denom().Cmp(most) > 0 {
			larges++
			expectOnly(t, "large", residual, e, api.ErrLarge)
		} else if residual != frac(int(want.Num().Int64()), int(want.Denom().Int64())) || e != api.OK {
			t.Fatalf("%v: %v, %d, want %v", l, residual, e, want)
		}
	}
	if larges < 100 || larges > 1400 {
		t.Errorf("%d are large", larges)
	}
}

// P9.2: the greatest part of a residual, and one more.
func TestResidualOfLarge(t *testing.T) {
	of := func(distances, values [4]int) []api.TargetReading {
		var l []api.TargetReading
		for i := range 4 {
			l = append(l, reading(distances[i], values[i], 0))
		}
		return l
	}
	for _, c := range []struct {
		distances, values [4]int
		want              api.Frac
	}{
		{[4]int{1150, 797, 1699, 975}, [4]int{57, 18, 44, 32}, frac(1000000000, 1826099)},
		{[4]int{579, 236, 1261, 1529}, [4]int{1, 17, 17, 1}, frac(1000000000, 4279571)},
		{[4]int{40, 1949, 1787, 582}, [4]int{49, 5, 24, 29}, frac(999999999, 5168506)},
		{[4]int{865, 914, 34, 1529}, [4]int{28, 11, 51, 27}, frac(1000000001, 2260754)},
	} {
		residual, e := target.ResidualOf(of(c.distances, c.values))
		if c.want.Num > 1000000000 {
			expectOnly(t, "large", residual, e, api.ErrLarge)
		} else if residual != c.want || e != api.OK {
			t.Errorf("%v: %v, %d, want %v", c, residual, e, c.want)
		}
	}
}

// P9.2, edge cases
func TestLevelErrors(t *testing.T) {
	draw := &draws{913}
	levels := [][]api.TargetReading{{{}}, r()[:1], {reading(2000, 2000, 1000)}, {reading(7, 7, 0), reading(7, 7, 0)}}
	for i := range 50 {
		l := draw.readings(1+i%8, 2000, 1000)
		for j := range l {
			l[j].Distance = l[0].Distance
		}
		levels = append(levels, l)
	}
	for _, l := range levels {
		best, e := target.LineOf(l)
		expectOnly(t, "LineOf", best, e, api.ErrZero)
		residual, e := target.ResidualOf(l)
		expectOnly(t, "ResidualOf", residual, e, api.ErrZero)
		// Before the error of the line.
		for _, x := range []api.TargetLine{line(1, 1, 0), line(2, 2, 2), {}, line(1, 0, l[0].Reading)} {
			i, e := target.CheckLine(l, x)
			expectOnly(t, "CheckLine", i, e, api.ErrZero)
		}
	}
}

// P9.2
func TestCheckLineErrors(t *testing.T) {
	for _, x := range badLines() {
		for _, l := range [][]api.TargetReading{two(), r()} {
			i, e := target.CheckLine(l, x.value)
			expectOnly(t, "CheckLine", i, e, x.want)
		}
	}
}

// P9.2, P9.8: which of both sums is not 0.
func TestCheckLineProofs(t *testing.T) {
	for _, c := range []struct {
		readings []api.TargetReading
		line     api.TargetLine
		index    int
	}{
		{two(), line(2, 7, 2), 0}, {two(), line(2, 7, 0), 0}, {two(), line(1, 3, 1), 1}, {two(), line(1, 0, 4), 1}, {two(), line(1, 4, 0), 1}, {two(), line(1, 3, 2), 0}, {two(), line(1, 0, 0), 0},
		{two(), line(2, -7, 1), 0}, {two(), line(2, 7, -1), 0}, {two(), line(1, 7, 1), 0}, {two(), line(3, 7, 1), 0}, {two(), line(1000000000, 999999999, 1000000000000), 0}, {two(), line(1, 1000000000, 1000000000000), 0},
		// The sum of the products alone is 0: it is that of the differences that counts.
		{two(), line(1, 1, 4), 0},
		{[]api.TargetReading{reading(0, 1, 0), reading(1, 0, 0)}, line(1, 0, 0), 0}, {[]api.TargetReading{reading(0, 1, 0), reading(1, 1, 0)}, line(1, 1, 0), 0},
		{[]api.TargetReading{reading(0, 1, 0), reading(2, 1, 0)}, line(1, 1, 0), 1}, {[]api.TargetReading{reading(0, 1, 0), reading(2, 1, 0)}, line(1, -1, 2), 1},
	} {
		if i, e := target.CheckLine(c.readings, c.line); i != c.index || e != api.ErrProof {
			t.Errorf("%v, %v: %d, %d, want %d", c.readings, c.line, i, e, c.index)
		}
	}
}

// P9.8: nothing else is accepted, and no other line has a smaller sum of squares.
func TestOtherLines(t *testing.T) {
	draw := &draws{914}
	for _, l := range someApart(915, 300) {
		best, _ := target.LineOf(l)
		slope, start := slopeOf(l)
		least := squares(l, slope, start)
		others := []api.TargetLine{
			line(best.Den, best.Scale, best.Offset+1), line(best.Den, best.Scale, best.Offset-1), line(best.Den, best.Scale+1, best.Offset), line(best.Den, best.Scale-1, best.Offset), line(best.Den+1, best.Scale, best.Offset),
			line(2*best.Den, 2*best.Scale, 2*best.Offset), line(-best.Den, -best.Scale, -best.Offset), line(1, 1, 0), line(1, 0, 0), draw.line(9, 9, 9), draw.line(1000, 1000, 100000), draw.line(1000000000, 1000000000, 1000000000000),
			line(best.Den, best.Scale+1, best.Offset-l[0].Distance), line(best.Den, -best.Scale, best.Offset),
		}
		for _, x := range others {
			if x == best || !isLowest(x) && x.Den > 0 && rat(x.Scale, x.Den).Cmp(slope) != 0 {
				continue
			}
			i, e := target.CheckLine(l, x)
			if !isLowest(x) {
				if i != 0 || e == api.OK || e == api.ErrProof {
					t.Fatalf("%v, %v: %d, %d", l, x, i, e)
				}
				continue
			}
			sum, products := new(big.Rat), new(big.Rat)
			for _, y := range l {
				difference := new(big.Rat).Sub(rat(y.Reading, 1), rat(x.Scale*y.Distance+x.Offset, x.Den))
				sum.Add(sum, difference)
				products.Add(products, difference.Mul(difference, rat(y.Distance, 1)))
			}
			want := 0
			if sum.Sign() == 0 {
				want = 1
			}
			if i != want || e != api.ErrProof || sum.Sign() == 0 && products.Sign() == 0 {
				t.Fatalf("%v, %v: %d, %d, want %d", l, x, i, e, want)
			}
			if squares(l, rat(x.Scale, x.Den), rat(x.Offset, x.Den)).Cmp(least) < 0 {
				t.Fatalf("%v: %v is better than %v", l, x, best)
			}
		}
	}
}

// P9.8: readings that are exactly on a whole line.
func TestExactLines(t *testing.T) {
	draw := &draws{916}
	for i := range 500 {
		scale, offset := draw.from(-3, 3), draw.from(0, 1000)
		if scale < 0 {
			offset += 900
		}
		var l []api.TargetReading
		for range 2 + i%7 {
			distance := draw.from(0, 300)
			l = append(l, reading(distance, scale*distance+offset, draw.from(0, 9)))
		}
		if isLevel(l) {
			continue
		}
		best, e := target.LineOf(l)
		residual, e2 := target.ResidualOf(l)
		if best != line(1, scale, offset) || e != api.OK || residual != frac(0, 1) || e2 != api.OK {
			t.Fatalf("%v: %v, %d, %v, %d", l, best, e, residual, e2)
		}
	}
}

// P9.2, examples 2 and 3, edge cases
func TestCorrectedExamples(t *testing.T) {
	for _, c := range []struct {
		line     api.TargetLine
		distance int
		want     api.Range
	}{
		{line(2, 7, 1), 1, ends(4, 4)}, {line(2, 7, 1), 2, ends(7, 8)}, {line(2, 7, 1), 0, ends(0, 1)}, {line(2, -7, -1), 2, ends(-8, -7)}, {line(2, -7, -1), 1, ends(-4, -4)}, {line(3, 0, -1), 2000, ends(-1, 0)}, {line(3, 0, 1), 0, ends(0, 1)},
		{line(1, 1000000000, 1000000000000), 2000, ends(3000000000000, 3000000000000)}, {line(1, -1000000000, -1000000000000), 2000, ends(-3000000000000, -3000000000000)}, {line(1000000000, 1, 0), 2000, ends(0, 1)}, {line(1000000000, -1, 0), 2000, ends(-1, 0)}, {line(1, 0, 0), 0, ends(0, 0)},
	} {
		if got, e := target.LineAt(c.line, c.distance); got != c.want || e != api.OK {
			t.Errorf("%v, %d: %v, %d, want %v", c.line, c.distance, got, e, c.want)
		}
	}
	for _, c := range []struct {
		line          api.TargetLine
		reading, want api.Range
	}{
		{line(2, 7, 1), ends(4, 8), ends(1, 3)}, {line(2, 7, 1), ends(4, 4), ends(1, 1)}, {line(2, 7, 1), ends(8, 8), ends(2, 3)}, {line(2, 7, 1), ends(0, 0), ends(-1, 0)}, {line(2, 7, 1), ends(0, 2000), ends(-1, 572)},
		// Distances are not limited.
		{line(1, 1, 1000), ends(0, 5), ends(-1000, -995)}, {line(1000000000, 1, 0), ends(2000, 2000), ends(2000000000000, 2000000000000)}, {line(1, 1, -1000000000000), ends(0, 0), ends(1000000000000, 1000000000000)},
		{line(1000000000, 1, -1000000000000), ends(0, 2000), ends(1000000000000, 3000000000000)}, {line(1, 1000000000, 0), ends(0, 1), ends(0, 1)}, {line(1, 1000000000, 1), ends(0, 1), ends(-1, 0)},
	} {
		if got, e := target.CorrectedIn(c.line, c.reading); got != c.want || e != api.OK {
			t.Errorf("%v, %v: %v, %d, want %v", c.line, c.reading, got, e, c.want)
		}
	}
}

// P9.2, P9.9
func TestCorrected(t *testing.T) {
	draw := &draws{917}
	inside := 0
	for i := range 2000 {
		most := []int{5, 100, 1000000000}[i%3]
		x := draw.line(most, most, []int{5, 1000, 1000000000000}[i/3%3])
		distance := draw.from(0, 2000)
		value := rat(x.Scale*distance+x.Offset, x.Den)
		at, e := target.LineAt(x, distance)
		if at != ends(down(value), up(value)) || e != api.OK {
			t.Fatalf("%v, %d: %v, %d, want %v", x, distance, at, e, value)
		}
		lo := draw.from(0, 2000)
		hi := draw.from(lo, 2000)
		corrected, e := target.CorrectedIn(x, ends(lo, hi))
		if x.Scale <= 0 {
			expectOnly(t, "falling", corrected, e, api.ErrZero)
			continue
		}
		first, last := rat(x.Den*lo-x.Offset, x.Scale), rat(x.Den*hi-x.Offset, x.Scale)
		if corrected != ends(down(first), up(last)) || e != api.OK {
			t.Fatalf("%v, %d, %d: %v, %d", x, lo, hi, corrected, e)
		}
		if at.Lo < 0 || at.Hi > 2000 {
			continue
		}
		inside++
		if corrected, e = target.CorrectedIn(x, at); corrected.Lo > distance || corrected.Hi < distance || e != api.OK {
			t.Fatalf("%v, %d: %v, %d", x, distance, corrected, e)
		}
	}
	if inside < 100 {
		t.Errorf("%d", inside)
	}
}

// P9.2
func TestLineAtErrors(t *testing.T) {
	for _, x := range badLines() {
		for _, distance := range []int{0, 2000, -1} {
			got, e := target.LineAt(x.value, distance)
			expectOnly(t, "line", got, e, x.want)
		}
	}
	for _, distance := range beyond(0, 2000) {
		for _, x := range []api.TargetLine{line(2, 7, 1), line(1, -1, 0), line(1000000000, 999999999, -1000000000000)} {
			got, e := target.LineAt(x, distance)
			expectOnly(t, "distance", got, e, api.ErrRange)
		}
	}
}

// P9.2, edge cases
func TestCorrectedInErrors(t *testing.T) {
	for _, x := range badLines() {
		for _, reading := range []api.Range{ends(0, 0), ends(-1, 0), ends(1, 0)} {
			got, e := target.CorrectedIn(x.value, reading)
			expectOnly(t, "line", got, e, x.want)
		}
	}
	for _, x := range []api.TargetLine{line(1, 0, 0), line(2, 0, 1), line(1, -1, 0), line(2, -7, 1), line(1, -1000000000, 1000000000000)} {
		for _, reading := range []api.Range{ends(0, 0), ends(-1, 0), ends(1, 0), ends(0, 2001)} {
			got, e := target.CorrectedIn(x, reading)
			expectOnly(t, "scale", got, e, api.ErrZero)
		}
	}
	for _, end := range beyond(0, 2000) {
		for _, reading := range []api.Range{ends(end, 2000), ends(end, 0), ends(0, end), ends(2000, end), ends(end, end)} {
			got, e := target.CorrectedIn(line(2, 7, 1), reading)
			expectOnly(t, "reading", got, e, api.ErrRange)
		}
	}
	for _, reading := range []api.Range{ends(1, 0), ends(2000, 0), ends(2000, 1999)} {
		got, e := target.CorrectedIn(line(2, 7, 1), reading)
		expectOnly(t, "reading", got, e, api.ErrOrder)
	}
}
