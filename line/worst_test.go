package line_test

import (
	"math"
	"testing"

	"glidepath/api"
	"glidepath/line"
)

// P2.5
func TestBiasOf(t *testing.T) {
	one := api.LineCase{Signal: []int{0, 3, 1}, Noise: noise(2), Truth: frac(-7, 3)}
	three := api.LineCase{Signal: []int{0, 0, 0}, Noise: noise(0, 1), Truth: frac(3, 2)}
	for _, x := range []struct {
		lineCase api.LineCase
		kind     int
		want     api.Frac
	}{
		{two(), api.LinePeak, frac(1, 4)},
		{two(), api.LineMedian, frac(1, 4)},
		{one, api.LinePeak, frac(10, 3)},
		{one, api.LineMedian, frac(10, 3)},
		// The peaks 0 0 1 0 2 0 1 0, the medians 0 0 1 0 2 0 1 1.
		{three, api.LinePeak, frac(-1, 1)},
		{three, api.LineMedian, frac(-7, 8)},
	} {
		if b, e := line.BiasOf(x.lineCase, x.kind); e != api.OK || b != x.want {
			t.Error(x, b, e)
		}
	}
	for _, kind := range []int{api.LineCentroid, api.LineParabola, api.LineEstimators, -1, math.MinInt, math.MaxInt} {
		b, e := line.BiasOf(two(), kind)
		expectOnly(t, "kind", b, e, api.ErrKind)
	}
	for _, x := range badCases() {
		for _, kind := range []int{api.LinePeak, api.LineCentroid, -1} {
			b, e := line.BiasOf(x.lineCase, kind)
			expectOnly(t, "case", b, e, x.want)
		}
	}
}

func worst(number, num, den int) api.LineWorst {
	return api.LineWorst{Error: frac(num, den), Number: number}
}

// P2.5
func TestWorstOf(t *testing.T) {
	dark := api.LineCase{Signal: []int{0, 0, 0}, Noise: noise(0), Truth: frac(0, 1)}
	far := api.LineCase{Signal: []int{0, 9000}, Noise: noise(0, 1000), Truth: frac(-100, 99)}
	for _, x := range []struct {
		lineCase api.LineCase
		kind     int
		want     api.LineWorst
	}{
		{two(), api.LinePeak, worst(2, 1, 1)},
		{two(), api.LineCentroid, worst(2, 3, 5)},
		{two(), api.LineParabola, worst(2, 1, 1)},
		{two(), api.LineMedian, worst(2, 1, 1)},
		{dark, api.LineCentroid, worst(0, 0, 1)},
		{far, api.LinePeak, worst(0, 199, 99)},
		{far, api.LineCentroid, worst(0, 199, 99)},
		// Equal errors below and above the truth: the first one.
		{api.LineCase{Signal: []int{0, 0}, Noise: noise(0, 1), Truth: frac(1, 2)}, api.LinePeak, worst(0, 1, 2)},
		{api.LineCase{Signal: []int{1, 0}, Noise: noise(2, 3), Truth: frac(1, 2)}, api.LineCentroid, worst(1, 1, 6)},
		{api.LineCase{Signal: []int{0, 2, 0}, Noise: noise(0, 1), Truth: frac(1, 1)}, api.LineParabola, worst(1, 1, 6)},
	} {
		if w, e := line.WorstOf(x.lineCase, x.kind); e != api.OK || w != x.want {
			t.Error(x, w, e)
		}
	}
}

// P2.5
func TestCheckWorst(t *testing.T) {
	for _, x := range []struct {
		kind   int
		worst  api.LineWorst
		number int
		want   api.Errno
	}{
		{api.LineCentroid, worst(2, 3, 5), 0, api.OK},
		{api.LinePeak, worst(2, 1, 1), 0, api.OK},
		{api.LineCentroid, worst(0, 1, 2), 2, api.ErrProof},
		{api.LineCentroid, worst(3, 1, 2), 2, api.ErrProof},
		{api.LineCentroid, worst(1, 2, 5), 0, api.ErrProof},
		{api.LinePeak, worst(3, 0, 1), 2, api.ErrProof},
		{api.LineCentroid, worst(1, 3, 5), 0, api.ErrClash},
		{api.LineCentroid, worst(2, 1, 2), 0, api.ErrClash},
		{api.LineCentroid, worst(2, math.MaxInt, 1), 0, api.ErrClash},
		{api.LineCentroid, worst(2, 1, math.MaxInt), 0, api.ErrClash},
		{api.LineCentroid, worst(4, 3, 5), 0, api.ErrMissing},
		{api.LineCentroid, worst(-1, 3, 5), 0, api.ErrMissing},
		{api.LineCentroid, worst(math.MinInt, 3, 5), 0, api.ErrMissing},
		{api.LineCentroid, worst(math.MaxInt, 3, 5), 0, api.ErrMissing},
		{api.LineCentroid, worst(2, 6, 10), 0, api.ErrForm},
		{api.LineCentroid, worst(9, 6, 10), 0, api.ErrForm},
		{api.LineCentroid, worst(2, -3, 5), 0, api.ErrForm},
		{api.LineCentroid, worst(2, 3, -5), 0, api.ErrForm},
		{api.LineCentroid, worst(2, 3, 0), 0, api.ErrForm},
		{api.LineCentroid, worst(2, 0, 0), 0, api.ErrForm},
		{api.LineCentroid, worst(2, math.MinInt, 1), 0, api.ErrForm},
		{api.LineEstimators, worst(2, 6, 10), 0, api.ErrKind},
		{-1, worst(2, 3, 5), 0, api.ErrKind},
	} {
		if number, e := line.CheckWorst(two(), x.kind, x.worst); number != x.number || e != x.want {
			t.Error(x, number, e)
		}
	}
	// Any case with the greatest error is accepted, not only the first one.
	even := api.LineCase{Signal: []int{0, 0}, Noise: noise(0, 1), Truth: frac(1, 2)}
	for number := range 4 {
		if n, e := line.CheckWorst(even, api.LinePeak, worst(number, 1, 2)); n != 0 || e != api.OK {
			t.Error(number, n, e)
		}
	}
	// The first case with a greater error, even if a later one has a still greater one.
	rising := api.LineCase{Signal: []int{0, 5}, Noise: noise(5, 4, 3), Truth: frac(0, 1)}
	if n, e := line.CheckWorst(rising, api.LineCentroid, worst(0, 2, 3)); n != 1 || e != api.ErrProof {
		t.Error(n, e)
	}
}

// P2.5
func TestBestOf(t *testing.T) {
	all := []int{api.LinePeak, api.LineCentroid, api.LineParabola, api.LineMedian}
	sure := api.LineCase{Signal: []int{0, 9, 0}, Noise: noise(0), Truth: frac(1, 1)}
	for _, x := range []struct {
		lineCase api.LineCase
		kinds    []int
		best     int
		worst    api.LineWorst
	}{
		{two(), []int{api.LinePeak, api.LineCentroid, api.LineMedian}, api.LineCentroid, worst(2, 3, 5)},
		{two(), all, api.LineCentroid, worst(2, 3, 5)},
		{two(), []int{api.LineMedian, api.LinePeak, api.LineParabola}, api.LineMedian, worst(2, 1, 1)},
		{two(), []int{api.LineParabola, api.LineParabola}, api.LineParabola, worst(2, 1, 1)},
		{two(), []int{api.LinePeak}, api.LinePeak, worst(2, 1, 1)},
		{sure, all, api.LinePeak, worst(0, 0, 1)},
		{sure, []int{3, 2, 1, 0}, api.LineMedian, worst(0, 0, 1)},
	} {
		if kind, w, e := line.BestOf(x.lineCase, x.kinds); e != api.OK || kind != x.best || w != x.worst {
			t.Error(x, kind, w, e)
		}
	}
}

func TestWorstErrors(t *testing.T) {
	for _, x := range badCases() {
		for _, kind := range []int{0, -1} {
			w, e := line.WorstOf(x.lineCase, kind)
			expectOnly(t, "worst", w, e, x.want)
			number, e := line.CheckWorst(x.lineCase, kind, api.LineWorst{})
			expectOnly(t, "check", number, e, x.want)
		}
		for _, kinds := range [][]int{{1}, nil} {
			kind, w, e := line.BestOf(x.lineCase, kinds)
			expectOnly(t, "best", w, e, x.want)
			expectOnly(t, "best", kind, e, x.want)
		}
	}
	for _, kind := range []int{-1, api.LineEstimators, math.MinInt, math.MaxInt} {
		w, e := line.WorstOf(two(), kind)
		expectOnly(t, "kind", w, e, api.ErrKind)
	}
	for _, x := range []struct {
		kinds []int
		want  api.Errno
	}{
		{nil, api.ErrShape},
		{[]int{}, api.ErrShape},
		{[]int{0, 1, 2, 3, 0}, api.ErrLarge},
		{[]int{-1, -1, -1, -1, -1}, api.ErrLarge},
		{[]int{4}, api.ErrKind},
		{[]int{1, 2, 3, -1}, api.ErrKind},
		{[]int{1, math.MaxInt, math.MinInt}, api.ErrKind},
	} {
		kind, w, e := line.BestOf(two(), x.kinds)
		expectOnly(t, "kinds", w, e, x.want)
		expectOnly(t, "kinds", kind, e, x.want)
	}
}

// errorOf is the distance of the estimate of a case from the truth.
func errorOf(c api.LineCase, kind, number int) (api.Frac, api.Errno) {
	l, e := line.Noisy(c, number)
	if e != api.OK {
		return api.Frac{}, e
	}
	p, e := line.Estimated(l, kind)
	num := p.Num*c.Truth.Den - c.Truth.Num*p.Den
	return lowest(max(num, -num), p.Den*c.Truth.Den), e
}

// P2.10
func TestBoundIsReached(t *testing.T) {
	d := draws{10}
	for range 60 {
		c := d.lineCase()
		for kind := range api.LineEstimators {
			w, e := line.WorstOf(c, kind)
			expect(t, "worst", e, api.OK)
			number := 0
			for x, e := errorOf(c, kind, 0); e == api.OK; x, e = errorOf(c, kind, number) {
				isFirst := number >= w.Number
				if isLess(w.Error, x) || !isFirst && x == w.Error || number == w.Number && x != w.Error {
					t.Fatal(c, kind, number, w, x)
				}
				number++
			}
			if n, e := line.CheckWorst(c, kind, w); n != 0 || e != api.OK {
				t.Fatal(c, kind, w, n, e)
			}
			if kind != api.LinePeak && kind != api.LineMedian {
				continue
			}
			b, e := line.BiasOf(c, kind)
			if e != api.OK || isLess(w.Error, b) || isLess(w.Error, frac(-b.Num, b.Den)) {
				t.Fatal(c, kind, b, w, e)
			}
		}
	}
}

// P2.5
func TestBiasAndBestByTheirDefinition(t *testing.T) {
	d := draws{5}
	for range 60 {
		c := d.lineCase()
		sum, count := 0, 0
		for l, e := line.Noisy(c, 0); e == api.OK; l, e = line.Noisy(c, count) {
			p, _ := line.PeakOf(l)
			sum += p
			count++
		}
		want := lowest(sum*c.Truth.Den-c.Truth.Num*count, count*c.Truth.Den)
		if b, e := line.BiasOf(c, api.LinePeak); e != api.OK || b != want {
			t.Fatal(c, b, want, e)
		}
		kinds := d.list(d.from(1, 4), 0, 3)
		best, least := 0, worst(0, 1000, 1)
		for _, kind := range kinds {
			if w, _ := line.WorstOf(c, kind); isLess(w.Error, least.Error) {
				best, least = kind, w
			}
		}
		if kind, w, e := line.BestOf(c, kinds); e != api.OK || kind != best || w != least {
			t.Fatal(c, kinds, kind, w, best, least, e)
		}
	}
}
