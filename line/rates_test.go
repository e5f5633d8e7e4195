package line_test

import (
	"math"
	"slices"
	"testing"

	"glidepath/api"
	"glidepath/line"
)

// P2.4
func TestFalseRate(t *testing.T) {
	for _, x := range []struct {
		noise            api.LineNoise
		lines, threshold int
		want             api.Frac
	}{
		{noise(0, 1), 2, 1, frac(3, 4)},
		{noise(0, 1), 2, 2, frac(0, 1)},
		{noise(0, 1), 2, 0, frac(1, 1)},
		{noise(1, 0), 12, 1, frac(4095, 4096)},
		{noise(3), 16, 3, frac(1, 1)},
		{noise(3), 16, 4, frac(0, 1)},
		{noise(1000), 1, 11000, frac(0, 1)},
		// Equal values count apart.
		{noise(0, 5, 5), 1, 5, frac(2, 3)},
		{noise(2, 5, 5, 9), 2, 9, frac(7, 16)},
		{noise(2, 5, 5, 9), 2, 6, frac(7, 16)},
		{noise(2, 5, 5, 9), 2, 5, frac(15, 16)},
		{noise(2, 2, 5, 9), 1, 3, frac(1, 2)},
	} {
		if r, e := line.FalseRate(x.noise, x.lines, x.threshold); e != api.OK || r != x.want {
			t.Error(x, r, e)
		}
	}
}

// P2.4
func TestThresholdFor(t *testing.T) {
	for _, x := range []struct {
		noise       api.LineNoise
		lines, risk int
		want        int
	}{
		{noise(0, 1), 2, 100, 2},
		{noise(0, 1), 2, 749, 2},
		{noise(0, 1), 2, 750, 1},
		{noise(0, 1), 2, 999, 1},
		{noise(0, 1), 2, 1000, 0},
		{noise(0), 16, 999, 1},
		{noise(0), 16, 0, 1},
		{noise(1000), 1, 0, 1001},
		{noise(1000), 1, 1000, 0},
		{noise(9, 2, 5, 2), 1, 499, 6},
		{noise(9, 2, 5, 2), 1, 500, 3},
		{noise(9, 2, 5, 2), 1, 249, 10},
		{noise(9, 2, 5, 2), 1, 999, 3},
		{noise(0, 1000), 12, 999, 1001},
		{noise(7, 7, 7), 7, 999, 8},
	} {
		if n, e := line.ThresholdFor(x.noise, x.lines, x.risk); e != api.OK || n != x.want {
			t.Error(x, n, e)
		}
	}
}

// badLines are numbers of lines with their errors for a noise of two values.
var badLines = []struct {
	lines int
	want  api.Errno
}{
	{0, api.ErrRange}, {-1, api.ErrRange}, {17, api.ErrRange}, {math.MinInt, api.ErrRange}, {math.MaxInt, api.ErrRange},
	{13, api.ErrLarge}, {16, api.ErrLarge},
}

func TestRateErrors(t *testing.T) {
	for _, x := range badNoises {
		for _, bad := range []int{1, -1, math.MaxInt} {
			r, e := line.FalseRate(x.noise, bad, bad)
			expectOnly(t, "noise", r, e, x.want)
			n, e := line.ThresholdFor(x.noise, bad, bad)
			expectOnly(t, "noise", n, e, x.want)
		}
	}
	for _, x := range badLines {
		for _, bad := range []int{1, -1} {
			r, e := line.FalseRate(noise(0, 1), x.lines, bad)
			expectOnly(t, "lines", r, e, x.want)
			n, e := line.ThresholdFor(noise(0, 1), x.lines, bad)
			expectOnly(t, "lines", n, e, x.want)
		}
	}
	for lines, x := range map[int]api.LineNoise{8: noise(1, 2, 3), 7: noise(1, 2, 3, 4)} {
		_, e := line.FalseRate(x, lines, 0)
		expect(t, "one more", e, api.ErrLarge)
		_, e = line.FalseRate(x, lines-1, 0)
		expect(t, "just as many", e, api.OK)
	}
	for _, threshold := range []int{-1, 11001, math.MinInt, math.MaxInt} {
		r, e := line.FalseRate(noise(0, 1), 2, threshold)
		expectOnly(t, "threshold", r, e, api.ErrRange)
		r, e = line.DetectedRate(two(), threshold)
		expectOnly(t, "threshold", r, e, api.ErrRange)
	}
	for _, risk := range []int{-1, 1001, math.MinInt, math.MaxInt} {
		n, e := line.ThresholdFor(noise(0, 1), 2, risk)
		expectOnly(t, "risk", n, e, api.ErrRange)
	}
	for _, x := range badCases() {
		for _, threshold := range []int{0, -1} {
			r, e := line.DetectedRate(x.lineCase, threshold)
			expectOnly(t, "case", r, e, x.want)
		}
	}
}

// P2.4
func TestDetectedRate(t *testing.T) {
	strong := api.LineCase{Signal: []int{9000, 0}, Noise: noise(0, 1000, 1000), Truth: frac(0, 1)}
	for _, x := range []struct {
		lineCase  api.LineCase
		threshold int
		want      api.Frac
	}{
		{two(), 3, frac(3, 4)},
		{two(), 0, frac(1, 1)},
		{two(), 2, frac(1, 1)},
		{two(), 4, frac(0, 1)},
		{strong, 9000, frac(1, 1)},
		{strong, 9001, frac(2, 3)},
		{strong, 10000, frac(2, 3)},
		{strong, 10001, frac(0, 1)},
		{strong, 11000, frac(0, 1)},
	} {
		if r, e := line.DetectedRate(x.lineCase, x.threshold); e != api.OK || r != x.want {
			t.Error(x, r, e)
		}
	}
}

// P2.11
func TestRates(t *testing.T) {
	d := draws{11}
	for range 100 {
		c := d.lineCase()
		n := len(c.Signal)
		before, beforeDetected := frac(1, 1), frac(1, 1)
		for threshold := range 10 {
			rate, e := line.FalseRate(c.Noise, n, threshold)
			expect(t, "false", e, api.OK)
			detected, e := line.DetectedRate(c, threshold)
			expect(t, "detected", e, api.OK)
			if isLess(before, rate) || isLess(beforeDetected, detected) || isLess(detected, rate) {
				t.Fatal(c, threshold, rate, detected)
			}
			before, beforeDetected = rate, detected
		}
		risk := d.from(0, 1000)
		threshold, e := line.ThresholdFor(c.Noise, n, risk)
		expect(t, "threshold", e, api.OK)
		if rate, _ := line.FalseRate(c.Noise, n, threshold); isLess(frac(risk, 1000), rate) {
			t.Fatal(c.Noise, n, risk, threshold, rate)
		}
		for smaller := range threshold {
			if rate, _ := line.FalseRate(c.Noise, n, smaller); !isLess(frac(risk, 1000), rate) {
				t.Fatal(c.Noise, n, risk, threshold, smaller, rate)
			}
		}
	}
}

// P2.4
func TestRatesByTheirDefinition(t *testing.T) {
	d := draws{4}
	for range 100 {
		c := d.lineCase()
		threshold := d.from(0, 8)
		detected, count := 0, 0
		for l, e := line.Noisy(c, 0); e == api.OK; l, e = line.Noisy(c, count) {
			if slices.Max(l) >= threshold {
				detected++
			}
			count++
		}
		if r, e := line.DetectedRate(c, threshold); e != api.OK || r != lowest(detected, count) {
			t.Fatal(c, threshold, r, e)
		}
		c.Signal = make([]int, len(c.Signal))
		alone, _ := line.DetectedRate(c, threshold)
		if r, e := line.FalseRate(c.Noise, len(c.Signal), threshold); e != api.OK || r != alone {
			t.Fatal(c, threshold, r, e)
		}
	}
}
