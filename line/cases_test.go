package line_test

import (
	"math"
	"slices"
	"testing"

	"glidepath/api"
	"glidepath/line"
)

// P2.3
func TestCheckNoise(t *testing.T) {
	for _, x := range badNoises {
		if i, e := line.CheckNoise(x.noise); i != x.index || e != x.want {
			t.Error(x.noise, i, e)
		}
	}
	for _, x := range []api.LineNoise{noise(0), noise(1000, 0, 1000, 5)} {
		if i, e := line.CheckNoise(x); i != 0 || e != api.OK {
			t.Error(x, i, e)
		}
	}
}

// P2.3
func TestCheckCase(t *testing.T) {
	for _, x := range badCases() {
		expect(t, line.FormatCase(x.lineCase), line.CheckCase(x.lineCase), x.want)
	}
	for _, c := range []api.LineCase{
		two(),
		{Signal: []int{9000}, Noise: noise(1000), Truth: frac(-100, 1)},
		{Signal: []int{0}, Noise: noise(0), Truth: frac(1, 100)},
		{Signal: []int{0}, Noise: noise(0), Truth: frac(100, 99)},
		{Signal: slices.Repeat([]int{9000}, 16), Noise: noise(1000), Truth: frac(15, 2)},
		{Signal: make([]int, 12), Noise: noise(0, 1), Truth: frac(0, 1)},
		{Signal: make([]int, 7), Noise: noise(0, 1, 1), Truth: frac(0, 1)},
		{Signal: make([]int, 6), Noise: noise(0, 1, 2, 3), Truth: frac(-1, 3)},
	} {
		expect(t, line.FormatCase(c), line.CheckCase(c), api.OK)
	}
}

// P2.3
func TestNoisy(t *testing.T) {
	for number, want := range [][]int{{2, 2}, {3, 2}, {2, 3}, {3, 3}} {
		if l, e := line.Noisy(two(), number); e != api.OK || !same(l, want) {
			t.Error(number, l, e)
		}
	}
	three := api.LineCase{Signal: []int{10, 20, 30}, Noise: noise(7, 0, 5), Truth: frac(1, 2)}
	for number, want := range map[int][]int{0: {17, 27, 37}, 1: {10, 27, 37}, 5: {15, 20, 37}, 11: {15, 27, 30}, 26: {15, 25, 35}} {
		if l, e := line.Noisy(three, number); e != api.OK || !same(l, want) {
			t.Error(number, l, e)
		}
	}
	one := api.LineCase{Signal: slices.Repeat([]int{9000}, 16), Noise: noise(1000), Truth: frac(0, 1)}
	if l, e := line.Noisy(one, 0); e != api.OK || !same(l, slices.Repeat([]int{10000}, 16)) {
		t.Error(l, e)
	}
	for _, x := range badCases() {
		for _, number := range []int{0, -1} {
			l, e := line.Noisy(x.lineCase, number)
			expectOnly(t, "case", l, e, x.want)
		}
	}
	for _, number := range []int{-1, 4, math.MinInt, math.MaxInt} {
		l, e := line.Noisy(two(), number)
		expectOnly(t, "number", l, e, api.ErrMissing)
	}
	for _, x := range []struct {
		lineCase api.LineCase
		number   int
	}{{three, 27}, {one, 1}} {
		l, e := line.Noisy(x.lineCase, x.number)
		expectOnly(t, "number", l, e, api.ErrMissing)
	}
}

// P2.3
func TestCasesCountDigits(t *testing.T) {
	c := api.LineCase{Signal: make([]int, 6), Noise: noise(0, 1, 2, 3), Truth: frac(0, 1)}
	for number := range api.MaxLineCases {
		l, e := line.Noisy(c, number)
		sum, place := 0, 1
		for _, digit := range l {
			sum += digit * place
			place *= 4
		}
		if e != api.OK || sum != number {
			t.Fatal(number, l, e)
		}
	}
	_, e := line.Noisy(c, api.MaxLineCases)
	expect(t, "after the last one", e, api.ErrMissing)
}
