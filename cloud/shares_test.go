package cloud_test

import (
	"math/big"
	"slices"
	"testing"

	"glidepath/api"
	"glidepath/cloud"
)

// undone computes the shares, each from all signals before it, or says that there are none.
func undone(l []int, constant int) ([]api.Frac, bool) {
	if sumOf(l) > constant {
		return nil, false
	}
	var shares []api.Frac
	for i, x := range l {
		rest := constant - sumOf(l[:i])
		if rest == 0 {
			return nil, false
		}
		shares = append(shares, lowest(x, rest))
	}
	return shares, true
}

// attenuated multiplies each share by the constant and by what all gates before it let through.
func attenuated(shares []api.Frac, constant int) ([]api.Frac, bool) {
	most := big.NewInt(1000000000)
	var signals []api.Frac
	for i, share := range shares {
		signal := new(big.Rat).Mul(ratOf(share), big.NewRat(int64(constant), 1))
		for _, before := range shares[:i] {
			signal.Mul(signal, new(big.Rat).Sub(big.NewRat(1, 1), ratOf(before)))
		}
		if signal.Num().Cmp(most) > 0 || signal.Denom().Cmp(most) > 0 {
			return nil, false
		}
		signals = append(signals, fracOf(signal))
	}
	return signals, true
}

func checkAttenuated(t *testing.T, shares []api.Frac, constant int) (isLarge bool) {
	t.Helper()
	want, ok := attenuated(shares, constant)
	got, e := cloud.Attenuated(shares, constant)
	if !ok {
		expectOnly(t, "large", got, e, api.ErrLarge)
	} else if !same(got, want) || e != api.OK {
		t.Fatalf("%v, %d: %v, %d, want %v", shares, constant, got, e, want)
	}
	return !ok
}

// P8.2, example 1, edge cases
func TestUndoneExamples(t *testing.T) {
	for _, c := range []struct {
		profile  []int
		constant int
		want     []api.Frac
	}{
		{one(), 100, []api.Frac{frac(1, 10), frac(0, 1), frac(1, 2), frac(1, 1)}},
		{one(), 190, []api.Frac{frac(1, 19), frac(0, 1), frac(1, 4), frac(1, 3)}},
		{[]int{0}, 1, []api.Frac{frac(0, 1)}},
		{[]int{1}, 1, []api.Frac{frac(1, 1)}},
		{[]int{0, 0, 7}, 7, []api.Frac{frac(0, 1), frac(0, 1), frac(1, 1)}},
		{[]int{10000}, 1000000, []api.Frac{frac(1, 100)}},
		{[]int{9999, 1}, 1000000, []api.Frac{frac(9999, 1000000), frac(1, 990001)}},
		{[]int{6, 0}, 7, []api.Frac{frac(6, 7), frac(0, 1)}},
	} {
		if got, e := cloud.Undone(c.profile, c.constant); !same(got, c.want) || e != api.OK {
			t.Errorf("%v, %d: %v, %d, want %v", c.profile, c.constant, got, e, c.want)
		}
	}
}

// P8.2, P8.9
func TestUndone(t *testing.T) {
	draw := &draws{84}
	for i, l := range profiles(85, 960) {
		sum := sumOf(l)
		constant := []int{max(1, sum-1), max(1, sum), sum + 1, min(1000000, max(1, 2*sum)), draw.from(1, 1000000)}[i%5]
		want, ok := undone(l, constant)
		got, e := cloud.Undone(l, constant)
		if !ok {
			expectOnly(t, "break", got, e, api.ErrBreak)
			continue
		}
		if !same(got, want) || e != api.OK {
			t.Fatalf("%v, %d: %v, %d, want %v", l, constant, got, e, want)
		}
		for _, share := range got {
			if share.Num < 0 || share.Num > share.Den {
				t.Fatalf("%v, %d: %v is no part", l, constant, share)
			}
		}
		back, e := cloud.Attenuated(got, constant)
		isBack := func(x api.Frac, signal int) bool { return x == frac(signal, 1) }
		if e != api.OK || !slices.EqualFunc(back, l, isBack) {
			t.Fatalf("%v, %d: back %v, %d", l, constant, back, e)
		}
	}
}

// P8.2
func TestUndoneErrors(t *testing.T) {
	for _, constant := range badConstants() {
		for _, l := range [][]int{one(), {0}, {1, 0}, slices.Repeat([]int{10000}, 24)} {
			got, e := cloud.Undone(l, constant)
			expectOnly(t, "constant", got, e, api.ErrRange)
		}
	}
	for _, c := range []struct {
		profile  []int
		constant int
	}{
		{one(), 99}, {[]int{2}, 1}, {[]int{1, 1}, 1}, {[]int{1, 0}, 1}, {[]int{0, 1, 0}, 1}, {[]int{5, 5, 0}, 10}, {[]int{5, 5, 0, 0, 3}, 10}, {[]int{5, 6, 0, 0, 3}, 10},
		{slices.Repeat([]int{10000}, 24), 239999}, {append(slices.Repeat([]int{10000}, 23), 0), 230000}, {[]int{10000, 0}, 1},
	} {
		got, e := cloud.Undone(c.profile, c.constant)
		expectOnly(t, "break", got, e, api.ErrBreak)
	}
}

// P8.2, example 1
func TestUndoneInExamples(t *testing.T) {
	span := func(a, b, c, d int) api.Span { return api.Span{Lo: frac(a, b), Hi: frac(c, d)} }
	for _, c := range []struct {
		profile  []int
		constant api.Range
		want     []api.Span
	}{
		{one(), api.Range{Lo: 100, Hi: 190}, []api.Span{span(1, 19, 1, 10), span(0, 1, 0, 1), span(1, 4, 1, 2), span(1, 3, 1, 1)}},
		{one(), api.Range{Lo: 190, Hi: 190}, []api.Span{span(1, 19, 1, 19), span(0, 1, 0, 1), span(1, 4, 1, 4), span(1, 3, 1, 3)}},
		{[]int{1}, api.Range{Lo: 1, Hi: 1000000}, []api.Span{span(1, 1000000, 1, 1)}},
		{[]int{0}, api.Range{Lo: 1, Hi: 1}, []api.Span{span(0, 1, 0, 1)}},
	} {
		if got, e := cloud.UndoneIn(c.profile, c.constant); !same(got, c.want) || e != api.OK {
			t.Errorf("%v, %v: %v, %d, want %v", c.profile, c.constant, got, e, c.want)
		}
	}
}

// P8.2, P8.9
func TestUndoneIn(t *testing.T) {
	draw := &draws{86}
	for i, l := range profiles(87, 480) {
		lo := max(1, sumOf(l)+i%4-1)
		r := api.Range{Lo: lo, Hi: draw.from(lo, []int{lo + 3, 1000000}[i%2])}
		got, e := cloud.UndoneIn(l, r)
		most, ok := undone(l, r.Lo)
		if !ok {
			expectOnly(t, "break", got, e, api.ErrBreak)
			continue
		}
		least, _ := undone(l, r.Hi)
		isSpan := func(x api.Span, i int) bool { return x == api.Span{Lo: least[i], Hi: most[i]} }
		if e != api.OK || len(got) != len(l) {
			t.Fatalf("%v, %v: %v, %d", l, r, got, e)
		}
		between, e := cloud.Undone(l, draw.from(r.Lo, r.Hi))
		for i, x := range got {
			share := ratOf(between[i])
			if e != api.OK || !isSpan(x, i) || share.Cmp(ratOf(x.Lo)) < 0 || share.Cmp(ratOf(x.Hi)) > 0 {
				t.Fatalf("%v, %v: %v, %d, %v between", l, r, x, e, share)
			}
		}
	}
}

// P8.2
func TestUndoneInErrors(t *testing.T) {
	for _, l := range [][]int{one(), {0}, {1, 0}} {
		for _, x := range badConstants() {
			for _, r := range ranges(x, x, x, 1000000, 1, x, x, 1, 1000000, x) {
				got, e := cloud.UndoneIn(l, r)
				expectOnly(t, "constant", got, e, api.ErrRange)
			}
		}
		for _, r := range ranges(2, 1, 191, 190, 1000000, 1) {
			got, e := cloud.UndoneIn(l, r)
			expectOnly(t, "order", got, e, api.ErrOrder)
		}
	}
	for _, r := range ranges(99, 100, 99, 1000000, 1, 1, 50, 60) {
		got, e := cloud.UndoneIn(one(), r)
		expectOnly(t, "break", got, e, api.ErrBreak)
	}
	// The rest before the last gate is 0 for the smallest constant.
	for _, r := range ranges(5, 9, 5, 5) {
		got, e := cloud.UndoneIn([]int{5, 0}, r)
		expectOnly(t, "break", got, e, api.ErrBreak)
	}
}

// P8.2, example 2, edge cases
func TestAttenuatedExamples(t *testing.T) {
	for _, c := range []struct {
		shares   []api.Frac
		constant int
		want     []api.Frac
	}{
		{[]api.Frac{frac(1, 10), frac(0, 1), frac(1, 2)}, 100, []api.Frac{frac(10, 1), frac(0, 1), frac(45, 1)}},
		{[]api.Frac{frac(1, 3)}, 100, []api.Frac{frac(100, 3)}},
		{[]api.Frac{frac(1, 3), frac(1, 3), frac(3, 4)}, 9, []api.Frac{frac(3, 1), frac(2, 1), frac(3, 1)}},
		{[]api.Frac{frac(0, 1)}, 1, []api.Frac{frac(0, 1)}},
		{[]api.Frac{frac(1, 1)}, 1000000, []api.Frac{frac(1000000, 1)}},
		// Behind a gate that lets nothing through there is nothing.
		{[]api.Frac{frac(1, 1), frac(1, 1), frac(1, 2), frac(0, 1)}, 7, []api.Frac{frac(7, 1), frac(0, 1), frac(0, 1), frac(0, 1)}},
		{[]api.Frac{frac(1, 1), frac(1, 1000000000)}, 7, []api.Frac{frac(7, 1), frac(0, 1)}},
		{slices.Repeat([]api.Frac{frac(0, 1)}, 24), 5, slices.Repeat([]api.Frac{frac(0, 1)}, 24)},
		// The greatest parts.
		{[]api.Frac{frac(1, 1000000000)}, 1, []api.Frac{frac(1, 1000000000)}},
		{[]api.Frac{frac(999999999, 1000000000)}, 1, []api.Frac{frac(999999999, 1000000000)}},
		{[]api.Frac{frac(1, 1000000000)}, 1000000, []api.Frac{frac(1, 1000)}},
		{[]api.Frac{frac(1, 31250), frac(15625, 31249)}, 1000000, []api.Frac{frac(32, 1), frac(500000, 1)}},
		{[]api.Frac{frac(999999929, 999999937), frac(1, 2)}, 1, []api.Frac{frac(999999929, 999999937), frac(4, 999999937)}},
	} {
		if got, e := cloud.Attenuated(c.shares, c.constant); !same(got, c.want) || e != api.OK {
			t.Errorf("%v, %d: %v, %d, want %v", c.shares, c.constant, got, e, c.want)
		}
	}
}

// P8.2
func TestAttenuated(t *testing.T) {
	draw := &draws{88}
	large := 0
	for i := range 2000 {
		var shares []api.Frac
		for range 1 + i%24 {
			shares = append(shares, draw.part([]int{2, 4, 40, 1000000000}[i/24%4]))
		}
		if checkAttenuated(t, shares, draw.from(1, []int{10, 1000000}[i%2])) {
			large++
		}
	}
	if large < 100 || large > 1900 {
		t.Errorf("%d of 2000 are large", large)
	}
}

// P8.2, R11: intermediate results, such as a rest, are not restricted.
func TestAttenuatedGreatRests(t *testing.T) {
	const a, b = 600000001, 300000007
	// After the second gate the rest is a (b - 1) / (b (a + b)).
	shares := []api.Frac{frac(1, b), frac(b, a+b), frac(0, 1), frac(b, a)}
	want := []api.Frac{frac(1, b), lowest(b-1, a+b), frac(0, 1), lowest(b-1, a+b)}
	if got, e := cloud.Attenuated(shares, 1); !same(got, want) || e != api.OK {
		t.Errorf("%v, %d, want %v", got, e, want)
	}
	// Each gate sends back the same part.
	shares, want = nil, nil
	for i := range 24 {
		shares, want = append(shares, frac(1, 1000000000-i)), append(want, frac(1, 1000000000))
	}
	if got, e := cloud.Attenuated(shares, 1); !same(got, want) || e != api.OK {
		t.Errorf("%v, %d, want %v", got, e, want)
	}
	const p, q = 999999937, 999999929 // primes
	for _, shares := range [][]api.Frac{
		{frac(q, p), frac(1, 8)}, {frac(p-1, p), frac(1, 1)}, {frac(1, p), frac(1, p-1)}, {frac(1, p), frac(1, p-1), frac(1, p-2), frac(1, p-3), frac(1, p-4)},
		{frac(1, p), frac(1, 9), frac(1, 9)}, {frac(1, p), frac(1, q)}, {frac(1, p), frac(q, p-1), frac(0, 1)}, {frac(1, p), frac(q, p-1), frac(1, p-1-q)},
		{frac(1, 31623), frac(1, 31627)}, {frac(1, 31607), frac(1, 31606), frac(1, 31605)}, {frac(1, 31607), frac(1, 31627)},
		{frac(0, 1), frac(1, p), frac(0, 1), frac(1, p-1), frac(0, 1)}, {frac(1, p), frac(1, p-1), frac(0, 1), frac(1, p-2), frac(p-4, p-3)},
		{frac(1, b), frac(b, a+b), frac(b, a), frac(0, 1), frac(1, 1)}, {frac(1, b), frac(b, a+b), frac(b, a), frac(1, 2)}, {frac(1, b), frac(b, a+b), frac(a-1, a)},
	} {
		for _, constant := range []int{1, 2, 3, 31607, 31627, 999983, 1000000} {
			checkAttenuated(t, shares, constant)
		}
	}
}

// P8.2
func TestAttenuatedErrors(t *testing.T) {
	good := []api.Frac{frac(1, 2)}
	for _, shares := range [][]api.Frac{nil, {}} {
		for _, constant := range []int{0, 1} {
			got, e := cloud.Attenuated(shares, constant)
			expectOnly(t, "shape", got, e, api.ErrShape)
		}
	}
	for _, shares := range [][]api.Frac{make([]api.Frac, 25), slices.Repeat(good, 25), slices.Repeat([]api.Frac{frac(0, 1)}, 25)} {
		got, e := cloud.Attenuated(shares, 0)
		expectOnly(t, "large", got, e, api.ErrLarge)
	}
	for _, x := range badParts() {
		for _, shares := range [][]api.Frac{{x.value}, {good[0], x.value}, append(slices.Repeat(good, 23), x.value), {x.value, {}, frac(2, 1)}} {
			for _, constant := range []int{0, 1, 1000000} {
				got, e := cloud.Attenuated(shares, constant)
				expectOnly(t, "share", got, e, x.want)
			}
		}
	}
	for _, constant := range badConstants() {
		for _, shares := range [][]api.Frac{good, {frac(1, 999999937), frac(1, 999999937)}} {
			got, e := cloud.Attenuated(shares, constant)
			expectOnly(t, "constant", got, e, api.ErrRange)
		}
	}
	for _, shares := range [][]api.Frac{
		{frac(1, 999999937), frac(1, 999999937)}, {frac(1, 40000), frac(1, 40000)}, {frac(1, 2), frac(1, 1000000000)}, {frac(1, 1000000000), frac(1, 2), frac(0, 1)},
		slices.Repeat([]api.Frac{frac(1, 3)}, 24), slices.Repeat([]api.Frac{frac(1, 10)}, 10),
		// The denominator is 1000000001.
		{frac(1, 7), frac(1, 142857143)},
	} {
		got, e := cloud.Attenuated(shares, 1)
		expectOnly(t, "large", got, e, api.ErrLarge)
	}
	// Of these signals the numerator alone is too large.
	for _, shares := range [][]api.Frac{{frac(999999936, 999999937)}, {frac(999999999, 1000000000)}} {
		got, e := cloud.Attenuated(shares, 999983)
		expectOnly(t, "numerator", got, e, api.ErrLarge)
	}
}

// R3, R4
func TestSharesMemory(t *testing.T) {
	shares := []api.Frac{frac(1, 10), frac(0, 1), frac(1, 2)}
	signals, _ := cloud.Attenuated(shares, 100)
	signals[0] = frac(7, 7)
	if !slices.Equal(shares, []api.Frac{frac(1, 10), frac(0, 1), frac(1, 2)}) {
		t.Errorf("%v", shares)
	}
	if again, e := cloud.Attenuated(shares, 100); again[0] != frac(10, 1) || e != api.OK {
		t.Errorf("%v, %d", again, e)
	}
}
