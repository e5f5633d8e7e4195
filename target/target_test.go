package target_test

import (
	"math/bits"
	"slices"
	"testing"

	"glidepath/api"
	"glidepath/target"
)

func doesFit(offset int, x api.TargetReading) bool {
	difference := x.Distance + offset - x.Reading
	return max(difference, -difference) <= x.Error
}

// votes counts the votes of all offsets that any reading may have; the first one is that of -3000.
func votes(l []api.TargetReading) []int {
	var counts []int
	for offset := -3000; offset <= 3000; offset++ {
		count := 0
		for _, x := range l {
			if doesFit(offset, x) {
				count++
			}
		}
		counts = append(counts, count)
	}
	return counts
}

// common finds the range of the offsets that fit all readings, if there is one.
func common(l []api.TargetReading) (api.Range, bool) {
	counts := votes(l)
	first := slices.Index(counts, len(l))
	if first < 0 {
		return api.Range{}, false
	}
	slices.Reverse(counts)
	return ends(first-3000, 3000-slices.Index(counts, len(l))), true
}

// badOf looks at all sets of readings. Ranges that overlap in pairs have a common number.
func badOf(l []api.TargetReading) []int {
	var best []int
	found := false
	for set := range 1 << len(l) {
		var out []int
		for i := range l {
			if set>>i&1 == 1 {
				out = append(out, i)
			}
		}
		overlap := true
		for i, a := range l {
			for j, b := range l {
				apart := a.Reading - a.Distance - b.Reading + b.Distance
				if set>>i&1 == 0 && set>>j&1 == 0 && max(apart, -apart) > a.Error+b.Error {
					overlap = false
				}
			}
		}
		isBetter := !found || len(out) < len(best) || len(out) == len(best) && slices.Compare(out, best) < 0
		if overlap && isBetter {
			best, found = out, true
		}
	}
	return best
}

// someReadings are of all lengths; many of them clash.
func someReadings(seed uint64, count int) [][]api.TargetReading {
	draw := &draws{seed}
	l := [][]api.TargetReading{r(), two()}
	for i := range count {
		wide := []int{0, 3, 20, 2000}[i/8%4]
		l = append(l, draw.readings(1+i%8, wide, []int{0, wide / 4, wide / 2}[i/32%3]))
	}
	return l
}

// P9.1
func TestCheckReadings(t *testing.T) {
	good := append(someReadings(901, 200),
		[]api.TargetReading{{}}, []api.TargetReading{reading(2000, 2000, 1000)}, []api.TargetReading{reading(2000, 0, 0)}, []api.TargetReading{reading(0, 2000, 0)},
		make([]api.TargetReading, 8), slices.Repeat([]api.TargetReading{reading(2000, 2000, 1000)}, 8),
	)
	for _, l := range good {
		if i, e := target.CheckReadings(l); i != 0 || e != api.OK {
			t.Errorf("%v: %d, %d", l, i, e)
		}
	}
	for _, x := range badReadings() {
		if i, e := target.CheckReadings(x.value); i != x.index || e != x.want {
			t.Errorf("%v: %d, %d, want %d, %d", x.value, i, e, x.index, x.want)
		}
	}
}

// P9.1, P9.2: the errors of the readings come first, whatever else is wrong, and without the
// index.
func TestReadingsErrors(t *testing.T) {
	for _, x := range badReadings() {
		offsets, e := target.OffsetIn(x.value)
		expectOnly(t, "OffsetIn", offsets, e, x.want)
		voted, count, e := target.VotedIn(x.value)
		expectOnly(t, "VotedIn", voted, e, x.want)
		expectOnly(t, "VotedIn", count, e, x.want)
		out, e := target.BadOf(x.value)
		expectOnly(t, "BadOf", out, e, x.want)
		best, e := target.LineOf(x.value)
		expectOnly(t, "LineOf", best, e, x.want)
		residual, e := target.ResidualOf(x.value)
		expectOnly(t, "ResidualOf", residual, e, x.want)
		for _, y := range []api.TargetLine{{}, line(1, 1, 0), line(2, 2, 2)} {
			i, e := target.CheckLine(x.value, y)
			expectOnly(t, "CheckLine", i, e, x.want)
		}
	}
}

// R3: no argument is changed.
func TestReadingsKept(t *testing.T) {
	for _, l := range someReadings(902, 200) {
		kept := slices.Clone(l)
		target.CheckReadings(l)
		target.OffsetIn(l)
		target.VotedIn(l)
		target.BadOf(l)
		best, _ := target.LineOf(l)
		target.CheckLine(l, best)
		target.ResidualOf(l)
		target.FormatReadings(l)
		if !slices.Equal(l, kept) {
			t.Fatalf("%v changed from %v", l, kept)
		}
	}
}

// P9.1, example 1, edge cases
func TestOffsetsOfExamples(t *testing.T) {
	type list = []api.TargetReading
	for _, c := range []struct {
		readings list
		isCommon bool
		voted    api.Range
		votes    int
		bad      []int
	}{
		{r(), false, ends(3, 5), 2, []int{2}},
		{r()[:1], true, ends(1, 5), 1, nil}, {r()[1:2], true, ends(3, 5), 1, nil}, {r()[2:], true, ends(7, 13), 1, nil}, {r()[:2], true, ends(3, 5), 2, nil},
		// One reading has an offset always.
		{list{reading(2000, 0, 0)}, true, ends(-2000, -2000), 1, nil}, {list{reading(0, 2000, 1000)}, true, ends(1000, 3000), 1, nil}, {list{reading(2000, 0, 1000)}, true, ends(-3000, -1000), 1, nil},
		// Readings of Error 0 have one offset each.
		{list{reading(5, 7, 0), reading(1000, 1002, 0)}, true, ends(2, 2), 2, nil}, {list{reading(5, 7, 0), reading(5, 6, 0)}, false, ends(1, 1), 1, []int{0}},
		// Two readings without a common offset have the first one as bad, whichever is voted for.
		{list{reading(5, 6, 0), reading(5, 7, 0)}, false, ends(1, 1), 1, []int{0}}, {list{reading(0, 0, 1), reading(0, 9, 7)}, false, ends(-1, 1), 1, []int{0}},
		// Ranges that touch have one common offset.
		{list{reading(0, 0, 2), reading(0, 5, 3)}, true, ends(2, 2), 2, nil}, {list{reading(0, 0, 1), reading(0, 5, 3)}, false, ends(-1, 1), 1, []int{0}},
		// Of several offsets with the same number of votes the smallest one counts, and the range
		// is smaller than that of one reading. The bad ones are the first set of several.
		{list{reading(10, 20, 1), reading(10, 11, 1), reading(10, 21, 1), reading(10, 10, 3)}, false, ends(0, 2), 2, []int{0, 2}},
		{list{reading(0, 0, 1), reading(0, 20, 1), reading(0, 1, 1), reading(0, 21, 1)}, false, ends(0, 1), 2, []int{0, 2}},
		{list{reading(0, 20, 1), reading(0, 0, 1), reading(0, 21, 1), reading(0, 1, 1)}, false, ends(0, 1), 2, []int{0, 2}},
		{list{reading(0, 20, 0), reading(0, 0, 0), reading(0, 1, 0), reading(0, 20, 0)}, false, ends(20, 20), 2, []int{1, 2}},
		{list{reading(0, 1, 0), reading(0, 2, 0), reading(0, 0, 0)}, false, ends(0, 0), 1, []int{0, 1}},
		// An offset may fit more readings than the range begins with.
		{list{reading(0, 5, 5), reading(0, 3, 1), reading(0, 9, 1)}, false, ends(2, 4), 2, []int{1}},
		{slices.Repeat(list{reading(7, 7, 0)}, 8), true, ends(0, 0), 8, nil},
	} {
		voted, count, e := target.VotedIn(c.readings)
		if voted != c.voted || count != c.votes || e != api.OK {
			t.Errorf("%v: voted %v, %d, %d, want %v, %d", c.readings, voted, count, e, c.voted, c.votes)
		}
		if out, e := target.BadOf(c.readings); !same(out, c.bad) || e != api.OK {
			t.Errorf("%v: bad %v, %d, want %v", c.readings, out, e, c.bad)
		}
		offsets, e := target.OffsetIn(c.readings)
		if !c.isCommon {
			expectOnly(t, "none", offsets, e, api.ErrNone)
		} else if offsets != c.voted || e != api.OK {
			t.Errorf("%v: %v, %d, want %v", c.readings, offsets, e, c.voted)
		}
	}
}

// P9.1, P9.7
func TestOffsets(t *testing.T) {
	clashes := 0
	for _, l := range someReadings(903, 800) {
		want, isCommon := common(l)
		offsets, e := target.OffsetIn(l)
		if !isCommon {
			clashes++
			expectOnly(t, "none", offsets, e, api.ErrNone)
		} else if offsets != want || e != api.OK {
			t.Fatalf("%v: %v, %d, want %v", l, offsets, e, want)
		}
		counts := votes(l)
		most := slices.Max(counts)
		first := slices.Index(counts, most) - 3000
		var voters []api.TargetReading
		for _, x := range l {
			if doesFit(first, x) {
				voters = append(voters, x)
			}
		}
		range2, _ := common(voters)
		voted, count, e := target.VotedIn(l)
		if voted != range2 || voted.Lo != first || count != most || e != api.OK {
			t.Fatalf("%v: %v, %d, %d, want %v, %d", l, voted, count, e, range2, most)
		}
		out, e := target.BadOf(l)
		if !same(out, badOf(l)) || e != api.OK {
			t.Fatalf("%v: %v, %d, want %v", l, out, e, badOf(l))
		}
		// P9.7: each offset of the voted range fits as many as there are votes, and with the bad
		// ones these are all; readings with a common offset have no bad ones.
		for _, offset := range []int{voted.Lo, voted.Hi, (voted.Lo + voted.Hi) >> 1} {
			if counts[offset+3000] != count || count+len(out) != len(l) || isCommon != (len(out) == 0) || isCommon && voted != offsets {
				t.Fatalf("%v: %v, %d, %v, %v", l, voted, count, out, offsets)
			}
		}
	}
	if clashes < 100 || clashes > 700 {
		t.Errorf("%d clashes", clashes)
	}
}

// P9.7: a true offset that fits all readings is in the range.
func TestTrueOffset(t *testing.T) {
	draw := &draws{904}
	for i := range 500 {
		offset := draw.from(-900, 900)
		var l []api.TargetReading
		for range 1 + i%8 {
			distance, off := draw.from(950, 1050), draw.from(0, 50)
			l = append(l, reading(distance, distance+offset+draw.from(-off, off), off))
		}
		offsets, e := target.OffsetIn(l)
		if offset < offsets.Lo || offset > offsets.Hi || e != api.OK {
			t.Fatalf("%d, %v: %v, %d", offset, l, offsets, e)
		}
		if out, e := target.BadOf(l); len(out) != 0 || e != api.OK {
			t.Fatalf("%v: %v, %d", l, out, e)
		}
	}
}

// P9.1: bad ones that are many, in sets of which several are minimum.
func TestBadOfGroups(t *testing.T) {
	for set := range 1 << 8 {
		var l []api.TargetReading
		for i := range 8 {
			l = append(l, reading(1000, 1000+set>>i&1*500, i))
		}
		ones := bits.OnesCount(uint(set))
		// Of two groups of the same size the one with the first reading is bad.
		isOneBad := ones < 4 || ones == 4 && set&1 == 1
		var want []int
		for i := range 8 {
			if (set>>i&1 == 1) == isOneBad {
				want = append(want, i)
			}
		}
		if out, e := target.BadOf(l); !same(out, want) || e != api.OK {
			t.Errorf("%v: %v, %d, want %v", l, out, e, want)
		}
	}
}

// R3: results share no memory.
func TestBadOfMemory(t *testing.T) {
	l := r()
	first, _ := target.BadOf(l)
	first[0] = 7
	if again, _ := target.BadOf(l); !same(again, []int{2}) {
		t.Errorf("%v", again)
	}
}
