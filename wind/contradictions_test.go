package wind_test

import (
	"math"
	"slices"
	"testing"

	"glidepath/api"
	"glidepath/wind"
)

func proof(indexes []int, factors ...int) api.WindProof {
	return api.WindProof{Readings: indexes, Factors: factors}
}

// P4.4
func TestContradictionOf(t *testing.T) {
	for _, x := range []struct {
		readings []api.WindReading
		want     api.WindProof
		sum      api.Range
	}{
		{r(reading(1, 0, 0, 6, 6)), proof([]int{0, 3}, 1, -1), ends(-3, -1)},
		{r(reading(1, 0, 1, 8, 9)), proof([]int{0, 2, 3}, 1, 1, -1), ends(-6, -1)},
		{readings(reading(1, 0, 0, 0, 1), reading(1, 0, 0, 2, 3)), proof([]int{0, 1}, 1, -1), ends(-3, -1)},
		{readings(reading(1, 0, 0, 2, 3), reading(-1, 0, 0, 0, 1)), proof([]int{0, 1}, 1, 1), ends(2, 4)},
		{readings(reading(-1, 0, 0, 0, 1), reading(1, 0, 0, 2, 3)), proof([]int{0, 1}, 1, 1), ends(2, 4)},
		{readings(reading(4, 6, 0, 4, 4), reading(-6, -9, 0, 6, 6)), proof([]int{0, 1}, 3, 2), ends(24, 24)},
		{readings(reading(2, 0, 0, 1, 1), reading(3, 0, 0, 2, 2)), proof([]int{0, 1}, 3, -2), ends(-1, -1)},
		{readings(reading(1, 1, 0, 0, 1), reading(1, -1, 0, 0, 1), reading(1, 0, 0, 2, 9)), proof([]int{0, 1, 2}, 1, 1, -2), ends(-18, -2)},
		// Four readings of the rank 3.
		{readings(reading(1, 0, 0, 0, 1), reading(0, 1, 0, 0, 1), reading(0, 0, 1, 0, 1), reading(1, 1, 1, 4, 5)), proof([]int{0, 1, 2, 3}, 1, 1, 1, -1), ends(-5, -1)},
		// Fewer readings count more than earlier ones, and of as many the earlier ones.
		{r(reading(1, 0, 1, 8, 9), reading(0, 0, 1, 3, 3)), proof([]int{2, 4}, 1, -1), ends(-3, -1)},
		{readings(reading(1, 0, 0, 0, 0), reading(0, 1, 0, 0, 0), reading(0, 1, 0, 1, 1), reading(1, 0, 0, 1, 1)), proof([]int{0, 3}, 1, -1), ends(-1, -1)},
		{readings(reading(1, 0, 0, 0, 0), reading(1, 0, 0, 0, 0), reading(1, 0, 0, 1, 1), reading(1, 0, 0, 2, 2)), proof([]int{0, 2}, 1, -1), ends(-1, -1)},
		{readings(reading(1, 0, 0, 0, 0), reading(1, 0, 0, 0, 0), reading(1, 0, 0, 0, 0), reading(1, 0, 0, 0, 0), reading(1, 0, 0, 0, 0), reading(-9, 0, 0, -1, -1)), proof([]int{0, 5}, 9, 1), ends(-1, -1)},
		// Two readings that depend on each other, but agree.
		{readings(reading(1, 0, 0, 0, 2), reading(2, 0, 0, 2, 4), reading(0, 1, 0, 0, 1), reading(1, 1, 0, 0, 0)), proof([]int{1, 2, 3}, 1, 2, -2), ends(2, 6)},
	} {
		proof, e := wind.ContradictionOf(x.readings)
		if e != api.OK || !same(proof.Readings, x.want.Readings) || !same(proof.Factors, x.want.Factors) {
			t.Error(x, proof, e)
		}
		if sum, e := wind.CheckContradiction(x.readings, x.want); e != api.OK || sum != x.sum {
			t.Error(x, sum, e)
		}
	}
	for _, l := range [][]api.WindReading{
		r(), plane(), half(), readings(reading(1, 2, 3, 4, 5)),
		readings(reading(1, 0, 0, 0, 1), reading(1, 0, 0, 1, 2), reading(-1, 0, 0, -1, -1), reading(2, 0, 0, 2, 3)),
		r(reading(1, 0, 1, 7, 9)),
	} {
		proof, e := wind.ContradictionOf(l)
		expectOnly(t, "none", proof, e, api.ErrNone)
	}
}

// P4.4
func TestCheckContradiction(t *testing.T) {
	l := r(reading(1, 0, 1, 8, 9), reading(-2, 0, 0, -2, -1))
	for _, x := range []struct {
		proof api.WindProof
		sum   api.Range
		want  api.Errno
	}{
		{proof([]int{0, 2, 3}, 1, 1, -1), ends(-6, -1), api.OK},
		{proof([]int{0, 2, 3}, -1, -1, 1), ends(1, 6), api.OK},
		{proof([]int{0, 2, 3}, 7, 7, -7), ends(-42, -7), api.OK},
		{proof([]int{0, 2, 3}, -1000000000, -1000000000, 1000000000), ends(1000000000, 6000000000), api.OK},
		// Factors of 0, and more readings than are needed.
		{proof([]int{0, 1, 2, 3, 4}, 1, 0, 1, -1, 0), ends(-6, -1), api.OK},
		{proof([]int{0, 2, 3, 4}, 3, 1, -1, 1), ends(-2, 8), api.ErrProof},
		{proof([]int{0, 2, 3, 4}, 5, 3, -3, 1), ends(-14, 6), api.ErrProof},
		{proof([]int{0, 4}, 2, 1), ends(4, 9), api.OK},
		{proof([]int{0, 1, 2, 3, 4}, 0, 0, 0, 0, 0), api.Range{}, api.ErrProof},
		{proof([]int{1}, 0), api.Range{}, api.ErrProof},
		{proof(nil), api.Range{}, api.ErrShape},
		{proof([]int{}, []int{}...), api.Range{}, api.ErrShape},
		{proof(nil, 1), api.Range{}, api.ErrShape},
		{proof([]int{0, 2, 3}, 1, 1), api.Range{}, api.ErrShape},
		{proof([]int{0, 2}, 1, 1, -1), api.Range{}, api.ErrShape},
		{proof([]int{0, 2, 3}), api.Range{}, api.ErrShape},
		{proof([]int{9, -1}, 1, 1, -1), api.Range{}, api.ErrShape},
		{proof([]int{0, 2, 5}, 1, 1, -1), api.Range{}, api.ErrMissing},
		{proof([]int{-1, 2, 3}, 1, 1, -1), api.Range{}, api.ErrMissing},
		{proof([]int{math.MinInt, 2, 3}, 1, 1, -1), api.Range{}, api.ErrMissing},
		{proof([]int{0, 2, math.MaxInt}, 1, 1, -1), api.Range{}, api.ErrMissing},
		{proof([]int{0, 5, 3}, 1, 1, math.MaxInt), api.Range{}, api.ErrMissing},
		{proof([]int{2, 5, 0}, 1, 1, -1), api.Range{}, api.ErrMissing},
		{proof([]int{2, -1}, 1, 1), api.Range{}, api.ErrMissing},
		{proof([]int{0, 3, 2}, 1, -1, 1), api.Range{}, api.ErrOrder},
		{proof([]int{2, 0, 3}, 1, 1, -1), api.Range{}, api.ErrOrder},
		{proof([]int{0, 0}, 1, -1), api.Range{}, api.ErrOrder},
		{proof([]int{2, 0, 5}, 1, 1, math.MaxInt), api.Range{}, api.ErrOrder},
		{proof([]int{0, 1, 2, 3, 4, 4}, 1, 0, 1, -1, 0, 0), api.Range{}, api.ErrOrder},
		{proof([]int{0, 2, 3}, 1000000001, 1000000001, -1000000001), api.Range{}, api.ErrRange},
		{proof([]int{0, 2, 3}, 1, 1, -1000000001), api.Range{}, api.ErrRange},
		{proof([]int{0, 2, 3}, math.MinInt, math.MinInt, math.MinInt), api.Range{}, api.ErrRange},
		{proof([]int{0, 2, 3}, 0, math.MaxInt, 0), api.Range{}, api.ErrRange},
		{proof([]int{0, 2, 3}, 1, 1, 1), api.Range{}, api.ErrForm},
		{proof([]int{0, 2, 3}, 1, 2, -1), api.Range{}, api.ErrForm},
		{proof([]int{1, 4}, 0, 1), api.Range{}, api.ErrForm},
		{proof([]int{1}, 1), api.Range{}, api.ErrForm},
		{proof([]int{2}, -1000000000), api.Range{}, api.ErrForm},
	} {
		sum, e := wind.CheckContradiction(l, x.proof)
		if x.want != api.OK {
			expectOnly(t, "proof", sum, e, x.want)
		} else if e != api.OK || sum != x.sum {
			t.Error(x, sum, e)
		}
	}
	// Ranges that touch 0 with either end.
	for _, value := range []api.Range{ends(5, 6), ends(2, 3), ends(0, 9), ends(4, 4)} {
		sum, e := wind.CheckContradiction(r(reading(1, 0, 0, value.Lo, value.Hi)), proof([]int{0, 3}, 1, -1))
		expectOnly(t, "touching", sum, e, api.ErrProof)
	}
	for _, x := range badReadings() {
		for _, proof := range []api.WindProof{{}, proof([]int{0, 2, 3}, 1, 1, -1), proof([]int{0, 9}, 1, -1)} {
			sum, e := wind.CheckContradiction(x.readings, proof)
			expectOnly(t, "readings", sum, e, x.want)
		}
	}
}

// P4.4, P4.10
func TestContradictionByItsDefinition(t *testing.T) {
	d := draws{4}
	sizes := map[int]int{}
	for n := range 400 {
		l := d.readings(d.from(1, 5), 1+n%3, 8)
		if n%4 == 0 {
			// Few readings that contradict each other, so that it takes many of them.
			l = d.around([3]int{d.from(-5, 5), d.from(-5, 5), d.from(-5, 5)}, d.from(3, 5), 1+n%5, 3)
			l[0].Value = ends(l[0].Value.Lo-n%8, l[0].Value.Lo-n%8)
		}
		var want []int
		for _, set := range subsets(len(l)) {
			if !isPossible(boundsOf(chosen(l, set))) {
				want = set
				break
			}
		}
		sizes[len(want)]++
		got, e := wind.ContradictionOf(l)
		if len(want) == 0 {
			expectOnly(t, "none", got, e, api.ErrNone)
			continue
		}
		if e != api.OK || !same(got.Readings, want) || got.Factors[0] <= 0 || isDivided(got.Factors...) {
			t.Fatal(l, got, want, e)
		}
		if sum, e := wind.CheckContradiction(l, got); e != api.OK || sum != sumBy(l, got) || sum.Lo <= 0 && sum.Hi >= 0 {
			t.Fatal(l, got, sum, e)
		}
		for i := range want {
			fewer := slices.Delete(slices.Clone(want), i, i+1)
			if part := chosen(l, fewer); len(part) > 0 {
				proof, e := wind.ContradictionOf(part)
				expectOnly(t, "fewer", proof, e, api.ErrNone)
			}
		}
	}
	for _, size := range []int{0, 2, 3, 4} {
		if sizes[size] < 10 {
			t.Error("too few cases of the size", size, sizes[size])
		}
	}
}

// sumBy also tests that the sum of the directions is 0.
func sumBy(l []api.WindReading, x api.WindProof) api.Range {
	var direction [3]int
	var lows, highs int
	for i, factor := range x.Factors {
		of := l[x.Readings[i]]
		for k := range 3 {
			direction[k] += factor * of.Direction[k]
		}
		if factor < 0 {
			lows, highs = lows+factor*of.Value.Hi, highs+factor*of.Value.Lo
		} else {
			lows, highs = lows+factor*of.Value.Lo, highs+factor*of.Value.Hi
		}
	}
	if direction != [3]int{} {
		return api.Range{}
	}
	return ends(lows, highs)
}

// P4.10
func TestEitherVerticesOrContradiction(t *testing.T) {
	d := draws{10}
	counts := map[bool]int{}
	for n := range 1000 {
		l := d.readings(d.from(3, 6), 1+n%9, []int{5, 300, 10000}[n%3])
		if rankBy(directionsOf(l)) < 3 {
			continue
		}
		vertices, e := wind.VerticesOf(l)
		proof, f := wind.ContradictionOf(l)
		hasWind, isContradiction := e == api.OK && len(vertices) > 0, f == api.OK && len(proof.Readings) > 0
		if hasWind == isContradiction || !hasWind && e != api.ErrNone || !isContradiction && f != api.ErrNone {
			t.Fatal(l, vertices, e, proof, f)
		}
		counts[hasWind]++
		if !isContradiction {
			continue
		}
		sum, e := wind.CheckContradiction(l, proof)
		if e != api.OK || sum != sumBy(l, proof) || isDivided(proof.Factors...) || proof.Factors[0] <= 0 {
			t.Fatal(l, proof, sum, e)
		}
	}
	if counts[true] < 100 || counts[false] < 100 {
		t.Error("too few cases", counts)
	}
}
