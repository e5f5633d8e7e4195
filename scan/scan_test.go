package scan_test

import (
	"math"
	"testing"

	"glidepath/api"
	"glidepath/scan"
)

// P3.1
func TestCheckAxis(t *testing.T) {
	for _, a := range badAxes {
		expect(t, "drive", scan.CheckAxis(a), api.ErrRange)
	}
	for _, a := range []api.ScanAxis{axis(1, 1), axis(30, 1), axis(1, 30), axis(30, 30)} {
		expect(t, "drive", scan.CheckAxis(a), api.OK)
	}
}

// P3.1
func TestReachOf(t *testing.T) {
	for ticks, want := range []int{0, 1, 2, 4, 6, 9, 12, 15, 18, 21} {
		if r, e := scan.ReachOf(axis(3, 1), ticks); e != api.OK || r != want {
			t.Error(ticks, r, e)
		}
	}
	for rate := 1; rate <= 30; rate++ {
		for acceleration := 1; acceleration <= 30; acceleration++ {
			for _, ticks := range []int{0, 1, 2, 3, 4, 5, 8, 9, 31, 58, 59, 60, 61, 62, 999, 1000} {
				a := axis(rate, acceleration)
				if r, e := scan.ReachOf(a, ticks); e != api.OK || r != reachBy(a, ticks) {
					t.Fatal(a, ticks, r, e)
				}
			}
		}
	}
	for _, a := range badAxes {
		for _, ticks := range []int{5, -1} {
			r, e := scan.ReachOf(a, ticks)
			expectOnly(t, "drive", r, e, api.ErrRange)
		}
	}
	for _, ticks := range []int{-1, 1001, math.MinInt, math.MaxInt} {
		r, e := scan.ReachOf(axis(3, 1), ticks)
		expectOnly(t, "ticks", r, e, api.ErrRange)
	}
}

// P3.1
func TestTicksFor(t *testing.T) {
	for distance, want := range map[int]int{0: 0, 1: 1, 2: 2, 3: 3, 4: 3, 5: 4, 6: 4, 9: 5, 10: 6, 20: 9, 21: 9, 22: 10, 85: 31, 87: 31, 88: 32, 360: 122} {
		if n, e := scan.TicksFor(axis(3, 1), distance); e != api.OK || n != want {
			t.Error(distance, n, e)
		}
	}
	for a, want := range map[api.ScanAxis]int{axis(1, 1): 360, axis(1, 30): 360, axis(30, 30): 12, axis(30, 1): 37} {
		if n, e := scan.TicksFor(a, 360); e != api.OK || n != want {
			t.Error(a, n, e)
		}
	}
	for _, a := range badAxes {
		for _, distance := range []int{5, -1} {
			n, e := scan.TicksFor(a, distance)
			expectOnly(t, "drive", n, e, api.ErrRange)
		}
	}
	for _, distance := range []int{-1, 361, math.MinInt, math.MaxInt} {
		n, e := scan.TicksFor(axis(3, 1), distance)
		expectOnly(t, "distance", n, e, api.ErrRange)
	}
}

// P3.8
func TestMinimumTicks(t *testing.T) {
	ticksOf := func(a api.ScanAxis, distance int) int {
		n, e := scan.TicksFor(a, distance)
		expect(t, "ticks", e, api.OK)
		return n
	}
	for rate := 1; rate <= 30; rate++ {
		for acceleration := 1; acceleration <= 30; acceleration++ {
			a := axis(rate, acceleration)
			before := 0
			for distance := 0; distance <= api.ScanTurn; distance += 1 + rate%7 {
				n := ticksOf(a, distance)
				if n < before || reachBy(a, n) < distance || n > 0 && reachBy(a, n-1) >= distance {
					t.Fatal(a, distance, n, before)
				}
				if rate < 30 && ticksOf(axis(rate+1, acceleration), distance) > n {
					t.Fatal(a, distance, n, "a greater rate")
				}
				if acceleration < 30 && ticksOf(axis(rate, acceleration+1), distance) > n {
					t.Fatal(a, distance, n, "a greater acceleration")
				}
				before = n
			}
		}
	}
}
