package pulse_test

import (
	"math"
	"testing"

	"glidepath/api"
	"glidepath/pulse"
)

// badPolynomials are polynomials with their errors.
var badPolynomials = []struct {
	polynomial []int
	want       api.Errno
}{
	{nil, api.ErrShape},
	{[]int{}, api.ErrShape},
	{make([]int, 5), api.ErrLarge},
	{[]int{61, 61, 61, 61, 61}, api.ErrLarge},
	{[]int{61}, api.ErrRange},
	{[]int{0, 60, -60, -61}, api.ErrRange},
	{[]int{0, math.MinInt}, api.ErrRange},
	{[]int{math.MaxInt}, api.ErrRange},
}

// P1.6
func TestLockRows(t *testing.T) {
	for _, x := range []struct {
		polynomial []int
		rows       [][]int
		isLocked   bool
	}{
		{[]int{1, 4}, [][]int{{1, 4}, {15}}, true},
		{[]int{1, -4}, [][]int{{1, -4}, {15}}, true},
		{[]int{-4, 4}, [][]int{{-4, 4}}, false},
		{[]int{1, 3, 1}, [][]int{{1, 3, 1}}, false},
		{[]int{0, 1, 2}, [][]int{{0, 1, 2}, {2, 4}, {12}}, true},
		{[]int{1, 3, 2}, [][]int{{1, 3, 2}, {3, 3}}, false},
		{[]int{1, 2, 3, 4}, [][]int{{1, 2, 3, 4}, {5, 10, 15}, {100, 200}, {30000}}, true},
		{[]int{0, 0, 0, -60}, [][]int{{0, 0, 0, -60}, {0, 0, 3600}, {0, 12960000}, {167961600000000}}, true},
		{[]int{1, -3, 3, -60}, [][]int{{1, -3, 3, -60}, {177, -177, 3599}, {-605694, 12921472}, {12921472*12921472 - 605694*605694}}, true},
		{[]int{7}, [][]int{{7}}, true},
		{[]int{-60}, [][]int{{-60}}, true},
		{[]int{0}, [][]int{{0}}, false},
		{[]int{0, 0}, [][]int{{0, 0}}, false},
		{[]int{0, 5, 0}, [][]int{{0, 5, 0}}, false},
	} {
		if l, e := pulse.LockRows(x.polynomial); e != api.OK || !same(l, x.rows) {
			t.Error(x, l, e)
		}
		if is, e := pulse.IsLocked(x.polynomial); e != api.OK || is != x.isLocked {
			t.Error(x, is, e)
		}
	}
	for _, x := range badPolynomials {
		l, e := pulse.LockRows(x.polynomial)
		expectOnly(t, "rows", l, e, x.want)
		is, e := pulse.IsLocked(x.polynomial)
		expectOnly(t, "locked", is, e, x.want)
	}
}

// P1.6
func TestMarginOf(t *testing.T) {
	for _, x := range []struct {
		a, b       []int
		most, want int
	}{
		{[]int{0, 2}, []int{1, 0}, 10, 1},
		{[]int{0, 2}, []int{1, 0}, 1, 1},
		{[]int{0, 2}, []int{1, 0}, 0, 0},
		{[]int{0, 2}, []int{2, 0}, 10, 0},
		{[]int{0, 20}, []int{-3, 0}, 10, 6},
		{[]int{0, 2}, []int{0, 0}, 60, 60},
		{[]int{0, 3}, []int{0, 1}, 60, 57},
		{[]int{0, -3}, []int{0, -7}, 60, 8},
		{[]int{5}, []int{-1}, 10, 4}, // 5 - 6 would be locked again
		{[]int{0, 0, 0, 10}, []int{1, 0, 0, 0}, 60, 9},
		{[]int{0, 0, 1}, []int{60, 60, 59}, 60, 0},
	} {
		if n, e := pulse.MarginOf(x.a, x.b, x.most); e != api.OK || n != x.want {
			t.Error(x, n, e)
		}
	}
}

func TestMarginOfErrors(t *testing.T) {
	for _, x := range badPolynomials {
		n, e := pulse.MarginOf(x.polynomial, nil, -1)
		expectOnly(t, "first", n, e, x.want)
		n, e = pulse.MarginOf(x.polynomial, x.polynomial, 1)
		expectOnly(t, "both", n, e, x.want)
		n, e = pulse.MarginOf([]int{2, 1}, x.polynomial, -1)
		expectOnly(t, "second", n, e, x.want)
	}
	n, e := pulse.MarginOf([]int{2, 1}, []int{1}, -1)
	expectOnly(t, "clash", n, e, api.ErrClash)
	n, e = pulse.MarginOf([]int{1}, []int{2, 1}, -1)
	expectOnly(t, "clash", n, e, api.ErrClash)
	for _, most := range []int{-1, 61, math.MinInt, math.MaxInt} {
		n, e = pulse.MarginOf([]int{2, 1}, []int{0, 0}, most)
		expectOnly(t, "most", n, e, api.ErrRange)
	}
	for _, a := range [][]int{{2, 1}, {0, 0}, {3, -3}} {
		n, e = pulse.MarginOf(a, []int{0, 9}, 5)
		expectOnly(t, "state", n, e, api.ErrState)
	}
}

// P1.6: the margin is the last gain before the first one that is not locked.
func TestMarginByLocks(t *testing.T) {
	r := numbers{6}
	for range 500 {
		length := r.from(1, 4)
		a, b := make([]int, length), make([]int, length)
		for k := range length {
			a[k], b[k] = r.from(-5, 5), r.from(-2, 2)
		}
		a[length-1] = r.from(10, 40)
		if is, _ := pulse.IsLocked(a); !is {
			continue
		}
		most := r.from(0, 60)
		want := 0
		for want < most {
			next := make([]int, length)
			for k := range next {
				next[k] = a[k] + (want+1)*b[k]
			}
			if is, e := pulse.IsLocked(next); e != api.OK || !is {
				break
			}
			want++
		}
		if n, e := pulse.MarginOf(a, b, most); e != api.OK || n != want {
			t.Fatal(a, b, most, n, want, e)
		}
	}
}

func locked(t *testing.T, l ...int) bool {
	t.Helper()
	is, e := pulse.IsLocked(l)
	expect(t, "locked", e, api.OK)
	return is
}

func size(x int) int { return max(x, -x) }

// P1.14
func TestLocked(t *testing.T) {
	for a := -5; a <= 5; a++ {
		for b := -5; b <= 5; b++ {
			for c := -5; c <= 5; c++ {
				if d := size(a) + size(b) + size(c) + 1; !locked(t, a, b, c, d) || !locked(t, a, b, c, -d) {
					t.Fatal(a, b, c, d)
				}
				is := locked(t, a, b, c)
				if size(c) > size(a)+size(b) && !is {
					t.Fatal(a, b, c)
				}
				for _, times := range []int{-12, -1, 2, 7} {
					if locked(t, times*a, times*b, times*c) != is {
						t.Fatal(times, a, b, c)
					}
				}
			}
			if a != 0 && b != 0 && locked(t, a*b, -a-b, 1) {
				t.Fatal(a, b)
			}
		}
	}
}

// All zeros of a polynomial of the degree 2 are inside of the unit circle by another criterion.
func TestLockedByTriangle(t *testing.T) {
	for a := -8; a <= 8; a++ {
		for b := -8; b <= 8; b++ {
			for c := 1; c <= 8; c++ {
				want := size(a) < c && size(b) < a+c
				if locked(t, a, b, c) != want || locked(t, -a, -b, -c) != want {
					t.Fatal(a, b, c)
				}
			}
		}
	}
}
