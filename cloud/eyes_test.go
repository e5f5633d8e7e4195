package cloud_test

import (
	"slices"
	"testing"

	"glidepath/api"
	"glidepath/cloud"
)

// nine are the shots of the examples.
func nine() []api.CloudShot {
	return []api.CloudShot{shot(0, 3, 2), shot(2, 5, 4)}
}

// powers returns those of so many seconds, one by one.
func powers(l []api.CloudShot, seconds int) []int {
	p := make([]int, seconds)
	for second := range p {
		for _, x := range l {
			if x.From <= second && second < x.To {
				p[second] += x.Power
			}
		}
	}
	return p
}

// energies returns that of the window that ends with each second.
func energies(l []api.CloudShot, seconds, window int) []int {
	p := powers(l, seconds)
	sums := make([]int, seconds)
	for second := range p {
		sums[second] = sumOf(p[max(0, second-window+1) : second+1])
	}
	return sums
}

func safety(window, energy int) api.CloudSafety {
	return api.CloudSafety{Window: window, Energy: energy}
}

// P8.7, example 9, edge cases
func TestExposureOfExamples(t *testing.T) {
	all := shot(0, 1000000, 10000)
	for _, c := range []struct {
		shots        []api.CloudShot
		window, want int
	}{
		{nine(), 2, 10}, {nine(), 1, 6}, {nine(), 3, 14}, {nine(), 4, 16}, {nine(), 5, 18}, {nine(), 6, 18}, {nine(), 1000000, 18},
		{[]api.CloudShot{shot(2, 5, 4), shot(0, 3, 2)}, 2, 10},
		// Without shots it is 0.
		{nil, 1, 0}, {nil, 1000000, 0}, {[]api.CloudShot{shot(5, 9, 0)}, 3, 0},
		// Shots may overlap, and lie apart.
		{[]api.CloudShot{shot(1, 2, 3), shot(1, 2, 3), shot(0, 9, 1)}, 1, 7}, {[]api.CloudShot{shot(0, 1, 5), shot(3, 4, 5)}, 3, 5}, {[]api.CloudShot{shot(0, 1, 5), shot(3, 4, 5)}, 4, 10},
		{[]api.CloudShot{shot(0, 1, 7), shot(5, 10, 1)}, 5, 7}, {[]api.CloudShot{shot(0, 1, 7), shot(5, 10, 1)}, 6, 8}, {[]api.CloudShot{shot(0, 1, 7), shot(2, 12, 1)}, 9, 14},
		{[]api.CloudShot{shot(999999, 1000000, 9)}, 1000000, 9},
		{slices.Repeat([]api.CloudShot{all}, 20), 1000000, 200000000000}, {slices.Repeat([]api.CloudShot{all}, 20), 1, 200000}, {slices.Repeat([]api.CloudShot{all}, 20), 999999, 199999800000},
	} {
		if got, e := cloud.ExposureOf(c.shots, c.window); got != c.want || e != api.OK {
			t.Errorf("%v, %d: %d, %d, want %d", c.shots, c.window, got, e, c.want)
		}
	}
}

// P8.7, example 9
func TestUnsafeAtExamples(t *testing.T) {
	all := shot(0, 1000000, 10000)
	for _, c := range []struct {
		shots  []api.CloudShot
		safety api.CloudSafety
		want   int // below 0 if it is never unsafe
	}{
		{nine(), safety(2, 7), 2}, {nine(), safety(2, 8), 3}, {nine(), safety(2, 9), 3}, {nine(), safety(2, 10), -1}, {nine(), safety(2, 0), 0}, {nine(), safety(2, 3), 1}, {nine(), safety(2, 1), 0}, {nine(), safety(2, 2), 1},
		{nine(), safety(5, 17), 4}, {nine(), safety(5, 13), 3}, {nine(), safety(1000000, 17), 4}, {nine(), safety(1000000, 18), -1},
		{nil, safety(1, 0), -1}, {[]api.CloudShot{shot(3, 9, 0)}, safety(2, 0), -1},
		// Near the beginning the window has fewer seconds.
		{[]api.CloudShot{shot(0, 1, 5)}, safety(1000000, 4), 0}, {[]api.CloudShot{shot(0, 9, 5)}, safety(5, 14), 2}, {[]api.CloudShot{shot(7, 9, 5)}, safety(3, 0), 7}, {[]api.CloudShot{shot(7, 9, 5)}, safety(3, 5), 8},
		// What has left the window does not count.
		{[]api.CloudShot{shot(0, 1, 7), shot(5, 10, 1)}, safety(5, 6), 0}, {[]api.CloudShot{shot(0, 1, 7), shot(5, 10, 1)}, safety(6, 7), 5}, {[]api.CloudShot{shot(0, 1, 3), shot(5, 10, 1)}, safety(5, 3), 8}, {[]api.CloudShot{shot(0, 1, 3), shot(5, 10, 1)}, safety(5, 4), 9},
		{[]api.CloudShot{all}, safety(1000000, 9999999999), 999999}, {[]api.CloudShot{all}, safety(1000000, 9999990000), 999999}, {[]api.CloudShot{all}, safety(1000000, 9999989999), 999998}, {[]api.CloudShot{all}, safety(1000000, 10000000000), -1},
		{slices.Repeat([]api.CloudShot{all}, 20), safety(500000, 99999999999), 499999}, {slices.Repeat([]api.CloudShot{all}, 20), safety(1000000, 1000000000000), -1},
		{[]api.CloudShot{shot(999999, 1000000, 1)}, safety(1000000, 0), 999999},
	} {
		got, e := cloud.UnsafeAt(c.shots, c.safety)
		if c.want < 0 {
			expectOnly(t, "safe", got, e, api.ErrNone)
		} else if got != c.want || e != api.OK {
			t.Errorf("%v, %v: %d, %d, want %d", c.shots, c.safety, got, e, c.want)
		}
	}
}

// P8.7, P8.14
func TestEyes(t *testing.T) {
	draw := &draws{109}
	for i := range 2000 {
		time := []int{6, 30, 200}[i%3]
		l := draw.shots(i/3%21, time, []int{1, 5, 10000}[i/63%3])
		kept := slices.Clone(l)
		window := draw.from(1, []int{3, time, 2 * time}[draw.from(0, 2)])
		sums := energies(l, time+2*window, window)
		most := slices.Max(sums)
		if got, e := cloud.ExposureOf(l, window); got != most || e != api.OK {
			t.Fatalf("%v, %d: %d, %d, want %d", l, window, got, e, most)
		}
		if got, e := cloud.ExposureOf(l, draw.from(1, window)); got > most || e != api.OK {
			t.Fatalf("%v, %d: %d, but %d, %d for a smaller one", l, window, most, got, e)
		}
		for _, energy := range []int{0, most, max(0, most-1), draw.from(0, most), draw.from(0, most), most + 1} {
			second := slices.IndexFunc(sums, func(x int) bool { return x > energy })
			got, e := cloud.UnsafeAt(l, safety(window, energy))
			if second < 0 {
				expectOnly(t, "safe", got, e, api.ErrNone)
			} else if got != second || e != api.OK {
				t.Fatalf("%v, %d, %d: %d, %d, want %d", l, window, energy, got, e, second)
			}
			if (e == api.OK) != (most > energy) {
				t.Fatalf("%v, %d, %d: %d, but the exposure is %d", l, window, energy, e, most)
			}
		}
		if !slices.Equal(l, kept) {
			t.Fatalf("%v changed from %v", l, kept)
		}
	}
}

// P8.7, P8.14: a long time, second by second.
func TestLongEyes(t *testing.T) {
	draw := &draws{110}
	for i := range 6 {
		l := draw.shots(4*i, 1000000, 10000)
		window := draw.from(1, []int{1000, 1000000}[i%2])
		p := make([]int, 1000001)
		for _, x := range l {
			p[x.From] += x.Power
			p[x.To] -= x.Power
		}
		for second := 1; second < len(p); second++ {
			p[second] += p[second-1]
		}
		energy, most, first := 0, 0, -1
		limit := draw.from(0, 10000*window)
		for second, power := range p {
			energy += power
			if second >= window {
				energy -= p[second-window]
			}
			most = max(most, energy)
			if energy > limit && first < 0 {
				first = second
			}
		}
		if got, e := cloud.ExposureOf(l, window); got != most || e != api.OK {
			t.Errorf("%v, %d: %d, %d, want %d", l, window, got, e, most)
		}
		got, e := cloud.UnsafeAt(l, safety(window, limit))
		if first < 0 {
			expectOnly(t, "safe", got, e, api.ErrNone)
		} else if got != first || e != api.OK {
			t.Errorf("%v, %d, %d: %d, %d, want %d", l, window, limit, got, e, first)
		}
	}
}

// P8.7
func TestEyesErrors(t *testing.T) {
	for _, x := range badShots() {
		for _, window := range []int{1, 0} {
			exposure, e := cloud.ExposureOf(x.value, window)
			expectOnly(t, "ExposureOf", exposure, e, x.want)
			second, e := cloud.UnsafeAt(x.value, safety(window, window-1))
			expectOnly(t, "UnsafeAt", second, e, x.want)
		}
	}
	for _, window := range badWindows() {
		for _, l := range [][]api.CloudShot{nine(), nil} {
			exposure, e := cloud.ExposureOf(l, window)
			expectOnly(t, "ExposureOf", exposure, e, api.ErrRange)
			for _, energy := range []int{0, -1} {
				second, e := cloud.UnsafeAt(l, safety(window, energy))
				expectOnly(t, "UnsafeAt", second, e, api.ErrRange)
			}
		}
	}
	for _, energy := range beyond(0, 1000000000000) {
		for _, l := range [][]api.CloudShot{nine(), nil} {
			second, e := cloud.UnsafeAt(l, safety(2, energy))
			expectOnly(t, "energy", second, e, api.ErrRange)
		}
	}
}
