package line_test

import (
	"math"
	"slices"
	"testing"

	"glidepath/api"
	"glidepath/line"
)

func rule(threshold, apart int) api.LineRule {
	return api.LineRule{Threshold: threshold, Apart: apart}
}

// P2.6
func TestDetectionsIn(t *testing.T) {
	for _, x := range []struct {
		lines []int
		rule  api.LineRule
		want  []int
	}{
		{[]int{0, 5, 5, 1, 3}, rule(3, 1), []int{1, 4}},
		{[]int{0, 5, 5, 1, 3}, rule(3, 2), []int{1}},
		{[]int{0, 5, 5, 1, 3}, rule(4, 1), []int{1}},
		{[]int{0, 5, 5, 1, 3}, rule(5, 16), []int{1}},
		{[]int{0, 5, 5, 1, 3}, rule(6, 0), nil},
		{[]int{0, 5, 5, 1, 3}, rule(11000, 0), nil},
		// With 0 apart each line of at least the threshold is a detection.
		{[]int{0, 5, 5, 1, 3}, rule(3, 0), []int{1, 2, 4}},
		{[]int{0, 0, 1}, rule(0, 0), []int{0, 1, 2}},
		{[]int{0, 0, 0, 0}, rule(0, 1), []int{0}},
		{[]int{0}, rule(0, 16), []int{0}},
		{[]int{3, 2, 1}, rule(0, 1), []int{0}},
		{[]int{1, 2, 3}, rule(0, 1), []int{2}},
		{[]int{4, 1, 4, 1, 4}, rule(2, 1), []int{0, 2, 4}},
		{[]int{4, 1, 4, 1, 4}, rule(2, 2), []int{0}},
		{[]int{4, 1, 1, 4}, rule(2, 2), []int{0, 3}},
	} {
		if l, e := line.DetectionsIn(x.lines, x.rule); e != api.OK || !same(l, x.want) {
			t.Error(x, l, e)
		}
	}
	for _, x := range badSpectra {
		for _, r := range []api.LineRule{rule(0, 0), rule(-1, -1)} {
			l, e := line.DetectionsIn(x.lines, r)
			expectOnly(t, "spectrum", l, e, x.want)
		}
	}
	for _, r := range []api.LineRule{
		rule(-1, 0), rule(11001, 0), rule(0, -1), rule(0, 17),
		rule(math.MinInt, 0), rule(math.MaxInt, 0), rule(0, math.MinInt), rule(0, math.MaxInt),
	} {
		l, e := line.DetectionsIn(four(), r)
		expectOnly(t, "rule", l, e, api.ErrRange)
	}
}

// P2.12
func TestDetectionsAreApart(t *testing.T) {
	d := draws{12}
	for range 500 {
		l := d.spectrum(6)
		r := rule(d.from(0, 7), d.from(0, 5))
		detections, e := line.DetectionsIn(l, r)
		expect(t, "detections", e, api.OK)
		for i, at := range detections {
			if l[at] < r.Threshold || i > 0 && at-detections[i-1] <= r.Apart {
				t.Fatal(l, r, detections)
			}
		}
		peak, _ := line.PeakOf(l)
		if slices.Contains(detections, peak) != (l[peak] >= r.Threshold) {
			t.Fatal(l, r, detections, peak)
		}
		for i, power := range l {
			isDetection := power >= r.Threshold
			for j, other := range l {
				if j < i && i-j <= r.Apart && other >= power || j > i && j-i <= r.Apart && other > power {
					isDetection = false
				}
			}
			if slices.Contains(detections, i) != isDetection {
				t.Fatal(l, r, detections, i)
			}
		}
	}
}

// P2.6
func TestQualityOf(t *testing.T) {
	for _, x := range []struct {
		lines []int
		at    int
		want  api.Frac
	}{
		{four(), 1, frac(4, 1)},
		{four(), 0, frac(1, 2)},
		{four(), 3, frac(0, 1)},
		{[]int{6, 4}, 0, frac(3, 2)},
		{[]int{0, 7, 0}, 0, frac(0, 1)},
		{append(slices.Repeat([]int{0}, 14), 1, 10000), 15, frac(150000, 1)},
	} {
		if q, e := line.QualityOf(x.lines, x.at); e != api.OK || q != x.want {
			t.Error(x, q, e)
		}
	}
	for _, x := range badSpectra {
		for _, at := range []int{0, -1} {
			q, e := line.QualityOf(x.lines, at)
			expectOnly(t, "spectrum", q, e, x.want)
		}
	}
	for _, at := range []int{-1, 4, math.MinInt, math.MaxInt} {
		for _, l := range [][]int{four(), {0, 0, 0, 0}} {
			q, e := line.QualityOf(l, at)
			expectOnly(t, "missing", q, e, api.ErrMissing)
		}
	}
	for _, l := range [][]int{{5}, {0}, {5, 0, 0}, {0, 0}} {
		q, e := line.QualityOf(l, 0)
		expectOnly(t, "zero", q, e, api.ErrZero)
	}
}

func hard(zero, half, power, percent int) api.LineHard {
	return api.LineHard{Zero: zero, Half: half, Power: power, Percent: percent}
}

// P2.6
func TestHardIn(t *testing.T) {
	gates := [][]int{{9, 1, 0}, {2, 3, 1}, {0, 0, 0}, {0, 0, 0, 0, 0, 8}, {1}}
	for _, x := range []struct {
		gates [][]int
		hard  api.LineHard
		want  []int
	}{
		{gates[:2], hard(0, 0, 5, 80), []int{0}},
		{gates[:2], hard(0, 0, 9, 90), []int{0}},
		{gates[:2], hard(0, 0, 10, 0), nil},
		{gates[:2], hard(0, 0, 0, 91), nil},
		{gates[:2], hard(0, 1, 5, 80), []int{0, 1}},
		{gates[:2], hard(1, 0, 1, 10), []int{0, 1}},
		{gates[:2], hard(2, 1, 4, 66), []int{1}},
		{gates[:2], hard(2, 1, 4, 67), nil},
		// A gate without power.
		{gates, hard(0, 16, 0, 100), []int{0, 1, 2, 3, 4}},
		{gates, hard(0, 0, 0, 100), []int{2, 4}},
		{gates, hard(0, 0, 1, 100), []int{4}},
		// Lines of Zero that a gate has not.
		{gates, hard(5, 0, 1, 1), []int{3}},
		{gates, hard(15, 0, 0, 0), []int{0, 1, 2, 3, 4}},
		{gates, hard(15, 16, 8, 100), []int{0, 3}},
		{gates, hard(15, 10, 8, 100), []int{3}},
		{nil, hard(0, 0, 0, 0), nil},
		{slices.Repeat(gates[:1], 20), hard(1, 0, 2, 0), nil},
		{[][]int{slices.Repeat([]int{10000}, 16)}, hard(15, 15, 160000, 100), []int{0}},
		{[][]int{slices.Repeat([]int{10000}, 16)}, hard(15, 14, 150000, 94), nil},
		{[][]int{slices.Repeat([]int{10000}, 16)}, hard(15, 14, 150000, 93), []int{0}},
	} {
		if l, e := line.HardIn(x.gates, x.hard); e != api.OK || !same(l, x.want) {
			t.Error(x, l, e)
		}
	}
}

func TestHardErrors(t *testing.T) {
	bad := hard(-1, -1, -1, -1)
	for _, x := range badSpectra {
		for _, rule := range []api.LineHard{{}, bad} {
			l, e := line.HardIn([][]int{four(), x.lines, {-1}}, rule)
			expectOnly(t, "gate", l, e, x.want)
			l, e = line.HardIn(slices.Repeat([][]int{x.lines}, 21), rule)
			expectOnly(t, "gates", l, e, api.ErrLarge)
		}
	}
	for _, x := range []api.LineHard{
		bad,
		hard(-1, 0, 0, 0), hard(16, 0, 0, 0), hard(0, -1, 0, 0), hard(0, 17, 0, 0),
		hard(0, 0, -1, 0), hard(0, 0, 160001, 0), hard(0, 0, 0, -1), hard(0, 0, 0, 101),
		hard(math.MinInt, 0, 0, 0), hard(0, math.MaxInt, 0, 0), hard(0, 0, math.MinInt, 0), hard(0, 0, 0, math.MaxInt),
	} {
		for _, gates := range [][][]int{nil, {four()}} {
			l, e := line.HardIn(gates, x)
			expectOnly(t, "hard", l, e, api.ErrRange)
		}
	}
}

// P2.13
func TestHardTargets(t *testing.T) {
	d := draws{13}
	for range 200 {
		gates := make([][]int, d.from(0, 20))
		for i := range gates {
			gates[i] = d.spectrum(5)
		}
		x := hard(d.from(0, 15), d.from(0, 4), d.from(0, 20), d.from(0, 99))
		targets, e := line.HardIn(gates, x)
		expect(t, "hard", e, api.OK)
		for i, l := range gates {
			part, all := 0, 0
			for j, power := range l {
				all += power
				if max(j-x.Zero, x.Zero-j) <= x.Half {
					part += power
				}
			}
			if part == all && all >= x.Power && !slices.Contains(targets, i) {
				t.Fatal(l, x)
			}
			if slices.Contains(targets, i) != (part >= x.Power && part*100 >= all*x.Percent) {
				t.Fatal(l, x)
			}
		}
		x.Percent = d.from(x.Percent+1, 100)
		fewer, e := line.HardIn(gates, x)
		expect(t, "fewer", e, api.OK)
		for _, i := range fewer {
			if !slices.Contains(targets, i) {
				t.Fatal(gates[i], x)
			}
		}
	}
}
