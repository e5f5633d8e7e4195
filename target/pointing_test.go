package target_test

import (
	"reflect"
	"slices"
	"testing"

	"glidepath/api"
	"glidepath/target"
)

// matrices are those with one number in each row and column that is 1 or -1, and the determinant
// 1, in their order: all matrices of such numbers are looked at.
func matrices() [][3][3]int {
	var l [][3][3]int
	for code := range 19683 {
		var m [3][3]int
		rest := code
		for i := 8; i >= 0; i-- {
			m[i/3][i%3] = rest%3 - 1
			rest /= 3
		}
		isRotation := true
		for i := range 3 {
			row, column := 0, 0
			for j := range 3 {
				row += m[i][j] * m[i][j]
				column += m[j][i] * m[j][i]
			}
			isRotation = isRotation && row == 1 && column == 1
		}
		determinant := m[0][0]*(m[1][1]*m[2][2]-m[1][2]*m[2][1]) - m[0][1]*(m[1][0]*m[2][2]-m[1][2]*m[2][0]) + m[0][2]*(m[1][0]*m[2][1]-m[1][1]*m[2][0])
		if isRotation && determinant == 1 {
			l = append(l, m)
		}
	}
	return l
}

func turned(m [3][3]int, d [3]int) [3]int {
	var l [3]int
	for i := range 3 {
		for j := range 3 {
			l[i] += m[i][j] * d[j]
		}
	}
	return l
}

func product(a, b [3]int) int { return a[0]*b[0] + a[1]*b[1] + a[2]*b[2] }

func scores(l []api.TargetSight) []int {
	var all []int
	for _, m := range matrices() {
		score := 0
		for _, x := range l {
			score += product(x.Seen, turned(m, x.Known))
		}
		all = append(all, score)
	}
	return all
}

// someSights are of all lengths; some of them have several best rotations.
func someSights(seed uint64, count int) [][]api.TargetSight {
	draw := &draws{seed}
	l := [][]api.TargetSight{five(), slices.Repeat([]api.TargetSight{sight([3]int{20, 20, 20}, [3]int{20, -20, 20})}, 8)}
	for i := range count {
		l = append(l, draw.sights(1+i%8, []int{1, 2, 20}[i/8%3]))
	}
	return l
}

// P9.3, example 4
func TestRotationOf(t *testing.T) {
	l := matrices()
	if len(l) != 24 {
		t.Fatalf("%d matrices", len(l))
	}
	for i, m := range l {
		if got, e := target.RotationOf(i); got != m || e != api.OK {
			t.Errorf("%d: %v, %d, want %v", i, got, e, m)
		}
	}
	for i, m := range map[int][3][3]int{
		0: {{-1, 0, 0}, {0, -1, 0}, {0, 0, 1}}, 7: {{0, -1, 0}, {1, 0, 0}, {0, 0, 1}}, 23: {{1, 0, 0}, {0, 1, 0}, {0, 0, 1}},
	} {
		if got, e := target.RotationOf(i); got != m || e != api.OK {
			t.Errorf("%d: %v, %d, want %v", i, got, e, m)
		}
	}
	for _, i := range beyond(0, 23) {
		got, e := target.RotationOf(i)
		expectOnly(t, "index", got, e, api.ErrRange)
	}
}

// P9.3, P9.10, example 4
func TestTurnedBy(t *testing.T) {
	if got, e := target.TurnedBy(7, [3]int{1, 2, 3}); got != [3]int{-2, 1, 3} || e != api.OK {
		t.Errorf("%v, %d", got, e)
	}
	draw := &draws{921}
	for i, m := range matrices() {
		for _, d := range [][3]int{{}, {20, -20, 20}, {1, 0, 0}, {0, 1, 0}, {0, 0, 1}, draw.direction(20), draw.direction(20), draw.direction(3)} {
			got, e := target.TurnedBy(i, d)
			if got != turned(m, d) || e != api.OK || i == 23 && got != d {
				t.Errorf("%d, %v: %v, %d", i, d, got, e)
			}
			// Rotations keep sums of products.
			other := draw.direction(20)
			if again, e := target.TurnedBy(i, other); product(got, again) != product(d, other) || e != api.OK {
				t.Errorf("%d, %v, %v: %v, %v", i, d, other, got, again)
			}
		}
	}
}

// P9.3
func TestTurnedByErrors(t *testing.T) {
	for _, i := range beyond(0, 23) {
		for _, d := range [][3]int{{}, {1, 2, 3}, {21, 0, 0}} {
			got, e := target.TurnedBy(i, d)
			expectOnly(t, "index", got, e, api.ErrRange)
		}
	}
	for _, x := range beyond(-20, 20) {
		for i := range 24 {
			for _, d := range [][3]int{{x, 0, 0}, {1, x, 20}, {20, -20, x}, {x, x, x}} {
				got, e := target.TurnedBy(i, d)
				expectOnly(t, "direction", got, e, api.ErrRange)
			}
		}
	}
}

// P9.3, example 5
func TestPointingOfExamples(t *testing.T) {
	all, e := target.ScoresOf(five())
	if len(all) != 24 || all[7] != 2 || e != api.OK {
		t.Errorf("%v, %d", all, e)
	}
	all[7] = 0
	if slices.Max(all) != 1 {
		t.Errorf("%v", all)
	}
	if best, score, e := target.PointingOf(five()); best != 7 || score != 2 || e != api.OK {
		t.Errorf("%d, %d, %d", best, score, e)
	}
	for margin, want := range map[int]bool{1: true, 2: false, 100000: false} {
		if got, e := target.IsSure(five(), margin); got != want || e != api.OK {
			t.Errorf("%d: %v, %d", margin, got, e)
		}
	}
}

// P9.3, edge cases: sights of one direction leave four rotations with the maximum score.
func TestOneDirection(t *testing.T) {
	axes := [][3]int{{1, 0, 0}, {0, -1, 0}, {0, 0, 20}, {-7, 0, 0}}
	for _, known := range axes {
		for _, seen := range axes {
			l := slices.Repeat([]api.TargetSight{sight(known, seen)}, 1+seen[2]%8)
			all, e := target.ScoresOf(l)
			best := slices.Max(all)
			count := 0
			for _, score := range all {
				if score == best {
					count++
				}
			}
			index, score, e2 := target.PointingOf(l)
			if count != 4 || e != api.OK || index != slices.Index(all, best) || score != best || e2 != api.OK {
				t.Errorf("%v: %v, %d, %d, %d, %d", l, all, e, index, score, e2)
			}
			if sure, e := target.IsSure(l, 1); sure || e != api.OK {
				t.Errorf("%v: %v, %d", l, sure, e)
			}
		}
	}
}

// P9.3, edge cases: a margin of 1 is sure if no other rotation has the same score.
func TestPointingOf(t *testing.T) {
	sures := 0
	for _, l := range someSights(922, 800) {
		kept := slices.Clone(l)
		want := scores(l)
		all, e := target.ScoresOf(l)
		if !same(all, want) || e != api.OK {
			t.Fatalf("%v: %v, %d, want %v", l, all, e, want)
		}
		best := slices.Max(want)
		index, score, e := target.PointingOf(l)
		if index != slices.Index(want, best) || score != best || e != api.OK {
			t.Fatalf("%v: %d, %d, %d, of %v", l, index, score, e, want)
		}
		others := slices.Delete(slices.Clone(want), index, index+1)
		gap := best - slices.Max(others)
		for _, margin := range []int{1, 2, 100, 100000, max(1, gap-1), max(1, gap), gap + 1} {
			sure, e := target.IsSure(l, margin)
			if sure != (gap >= margin) || e != api.OK {
				t.Fatalf("%v, %d: %v, %d, gap %d", l, margin, sure, e, gap)
			}
			if sure {
				sures++
			}
		}
		if !reflect.DeepEqual(l, kept) {
			t.Fatalf("%v changed from %v", l, kept)
		}
	}
	if sures < 100 {
		t.Errorf("%d", sures)
	}
}

// P9.10: directions that are seen as they are known, turned by a rotation.
func TestTurnedSights(t *testing.T) {
	draw := &draws{923}
	for i := range 480 {
		var l []api.TargetSight
		sum := 0
		for range 1 + i%8 {
			known := draw.direction(20)
			seen, e := target.TurnedBy(i%24, known)
			expect(t, "TurnedBy", e, api.OK)
			l = append(l, sight(known, seen))
			sum += product(known, known)
		}
		all, e := target.ScoresOf(l)
		index, score, e2 := target.PointingOf(l)
		if all[i%24] != sum || score != sum || index > i%24 || e != api.OK || e2 != api.OK {
			t.Fatalf("%d, %v: %v, %d, %d", i%24, l, all, index, score)
		}
	}
}

// P9.3
func TestSightsErrors(t *testing.T) {
	for _, x := range badSights() {
		all, e := target.ScoresOf(x.value)
		expectOnly(t, "ScoresOf", all, e, x.want)
		index, score, e := target.PointingOf(x.value)
		expectOnly(t, "PointingOf", index, e, x.want)
		expectOnly(t, "PointingOf", score, e, x.want)
		for _, margin := range []int{1, 0} {
			sure, e := target.IsSure(x.value, margin)
			expectOnly(t, "IsSure", sure, e, x.want)
		}
	}
	for _, margin := range beyond(1, 100000) {
		sure, e := target.IsSure(five(), margin)
		expectOnly(t, "margin", sure, e, api.ErrRange)
	}
}

// R3: results share no memory.
func TestScoresMemory(t *testing.T) {
	first, _ := target.ScoresOf(five())
	first[7] = 100
	if again, _ := target.ScoresOf(five()); again[7] != 2 {
		t.Errorf("%v", again)
	}
	m, _ := target.RotationOf(7)
	m[0][0] = 5
	if again, _ := target.RotationOf(7); again[0][0] != 0 {
		t.Errorf("%v", again)
	}
}
