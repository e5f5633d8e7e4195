package wind_test

import (
	"math"
	"slices"
	"testing"

	"glidepath/api"
	"glidepath/wind"
)

// two is the profile of the examples.
func two() []api.WindLayer {
	return []api.WindLayer{layer(100, ends(0, 10), ends(0, 0), ends(0, 0)), layer(200, ends(20, 25), ends(0, 0), ends(0, 0))}
}

type badProfile struct {
	layers []api.WindLayer
	index  int
	want   api.Errno
}

// badProfiles are profiles with their errors; most have errors that are listed later, too, which must not count.
func badProfiles() []badProfile {
	bad := []badProfile{
		{nil, 0, api.ErrShape},
		{[]api.WindLayer{}, 0, api.ErrShape},
		{make([]api.WindLayer, 13), 0, api.ErrLarge},
		{slices.Repeat([]api.WindLayer{layer(-1, ends(1, 0), ends(1, 0), ends(1, 0))}, 13), 0, api.ErrLarge},
	}
	zero := ends(0, 0)
	add := func(want api.Errno, l ...api.WindLayer) {
		for _, x := range l {
			bad = append(bad,
				badProfile{[]api.WindLayer{x}, 0, want},
				badProfile{[]api.WindLayer{x, layer(-1, zero, zero, zero)}, 0, want},
				badProfile{[]api.WindLayer{layer(0, zero, zero, zero), layer(1, ends(-100000, 100000), zero, zero), x}, 2, want},
				// Whether a layer follows the one before comes after all errors of its own.
				badProfile{[]api.WindLayer{layer(20000, zero, zero, zero), x}, 1, want},
			)
		}
	}
	wrong, swapped := ends(0, 100001), ends(1, 0)
	for _, height := range []int{-1, 20001, math.MinInt, math.MaxInt} {
		add(api.ErrRange, layer(height, zero, zero, zero), layer(height, swapped, swapped, swapped))
	}
	for _, x := range []api.Range{wrong, ends(-100001, 0), ends(100001, 0), ends(0, -100001), ends(math.MinInt, math.MaxInt), ends(math.MaxInt, math.MinInt)} {
		add(api.ErrRange, layer(5, x, zero, zero), layer(5, zero, x, zero), layer(5, zero, zero, x), layer(5, x, swapped, swapped), layer(5, zero, x, swapped))
	}
	for _, x := range []api.Range{swapped, ends(100000, -100000)} {
		add(api.ErrOrder, layer(5, x, zero, zero), layer(5, zero, x, zero), layer(5, zero, zero, x), layer(5, x, wrong, wrong), layer(5, zero, x, wrong))
	}
	for _, heights := range [][]int{{100, 100}, {100, 99}, {20000, 0}} {
		bad = append(bad, badProfile{[]api.WindLayer{layer(heights[0], zero, zero, zero), layer(heights[1], zero, zero, zero), layer(-1, wrong, wrong, wrong)}, 1, api.ErrOrder})
	}
	bad = append(bad, badProfile{[]api.WindLayer{layer(1, zero, zero, zero), layer(3, zero, zero, zero), layer(2, zero, zero, zero)}, 2, api.ErrOrder})
	return bad
}

// P4.5
func TestCheckProfile(t *testing.T) {
	for _, x := range badProfiles() {
		if i, e := wind.CheckProfile(x.layers); i != x.index || e != x.want {
			t.Error(x, i, e)
		}
	}
	d := draws{50}
	for _, l := range [][]api.WindLayer{
		two(),
		d.profile(12),
		{layer(0, ends(-100000, 100000), ends(100000, 100000), ends(-100000, -100000)), layer(20000, ends(0, 0), ends(0, 0), ends(0, 0))},
		{layer(20000, ends(0, 0), ends(0, 0), ends(0, 0))},
	} {
		if i, e := wind.CheckProfile(l); i != 0 || e != api.OK {
			t.Error(l, i, e)
		}
	}
}

// P4.5
func TestWindAt(t *testing.T) {
	one := []api.WindLayer{layer(7, ends(1, 2), ends(3, 4), ends(-6, -5))}
	wide := []api.WindLayer{layer(0, ends(-100000, 100000), ends(0, 0), ends(1, 1)), layer(20000, ends(-100000, 99999), ends(-1, 1), ends(2, 2))}
	three := append(two(), layer(203, ends(-1, 26), ends(-10, 0), ends(0, 0)))
	for _, x := range []struct {
		layers []api.WindLayer
		height int
		want   api.WindBox
	}{
		{two(), 100, two()[0].Wind},
		{two(), 200, two()[1].Wind},
		{two(), 150, api.WindBox{X: ends(10, 18)}},
		{two(), 133, api.WindBox{X: ends(6, 15)}},
		{two(), 101, api.WindBox{X: ends(0, 11)}},
		{two(), 199, api.WindBox{X: ends(19, 25)}},
		{one, 7, one[0].Wind},
		{wide, 0, wide[0].Wind},
		{wide, 1, api.WindBox{X: ends(-100000, 100000), Y: ends(-1, 1), Z: ends(1, 2)}},
		{wide, 10000, api.WindBox{X: ends(-100000, 100000), Y: ends(-1, 1), Z: ends(1, 2)}},
		{wide, 20000, wide[1].Wind},
		{three, 150, api.WindBox{X: ends(10, 18)}},
		{three, 200, two()[1].Wind},
		{three, 201, api.WindBox{X: ends(13, 26), Y: ends(-4, 0)}},
		{three, 202, api.WindBox{X: ends(6, 26), Y: ends(-7, 0)}},
		{three, 203, three[2].Wind},
	} {
		if b, e := wind.WindAt(x.layers, x.height); e != api.OK || b != x.want {
			t.Error(x, b, e)
		}
	}
	for _, x := range []struct {
		layers []api.WindLayer
		height int
		want   api.Errno
	}{
		{two(), 99, api.ErrMissing}, {two(), 201, api.ErrMissing}, {two(), 0, api.ErrMissing}, {two(), 20000, api.ErrMissing},
		{one, 6, api.ErrMissing}, {one, 8, api.ErrMissing},
		{two(), -1, api.ErrRange}, {two(), 20001, api.ErrRange}, {two(), math.MinInt, api.ErrRange}, {two(), math.MaxInt, api.ErrRange},
	} {
		b, e := wind.WindAt(x.layers, x.height)
		expectOnly(t, "height", b, e, x.want)
	}
}

// P4.5
func TestChangeIn(t *testing.T) {
	for _, x := range []struct {
		heights api.Range
		want    api.WindBox
	}{
		{ends(100, 200), api.WindBox{X: ends(10, 25)}},
		{ends(100, 150), api.WindBox{X: ends(0, 18)}},
		{ends(133, 150), api.WindBox{X: ends(-5, 12)}},
		{ends(150, 150), api.WindBox{X: ends(-8, 8)}},
		{ends(100, 100), api.WindBox{X: ends(-10, 10)}},
		{ends(200, 200), api.WindBox{X: ends(-5, 5)}},
	} {
		if b, e := wind.ChangeIn(two(), x.heights); e != api.OK || b != x.want {
			t.Error(x, b, e)
		}
	}
	sides := []api.WindLayer{layer(1, ends(1, 2), ends(-30, 40), ends(5, 5)), layer(3, ends(10, 20), ends(-7, -7), ends(0, 1))}
	if b, e := wind.ChangeIn(sides, ends(1, 3)); e != api.OK || b != (api.WindBox{X: ends(8, 19), Y: ends(-47, 23), Z: ends(-5, -4)}) {
		t.Error(b, e)
	}
	if b, e := wind.ChangeIn(sides, ends(1, 2)); e != api.OK || b != (api.WindBox{X: ends(3, 10), Y: ends(-59, 47), Z: ends(-3, -2)}) {
		t.Error(b, e)
	}
	for _, x := range []struct {
		heights api.Range
		want    api.Errno
	}{
		{ends(-1, 150), api.ErrRange}, {ends(150, 20001), api.ErrRange}, {ends(20001, 150), api.ErrRange}, {ends(150, -1), api.ErrRange},
		{ends(20001, -1), api.ErrRange}, {ends(math.MaxInt, math.MinInt), api.ErrRange}, {ends(math.MinInt, math.MaxInt), api.ErrRange},
		{ends(151, 150), api.ErrOrder}, {ends(20000, 0), api.ErrOrder}, {ends(250, 99), api.ErrOrder},
		{ends(99, 150), api.ErrMissing}, {ends(150, 201), api.ErrMissing}, {ends(0, 20000), api.ErrMissing}, {ends(99, 99), api.ErrMissing}, {ends(201, 300), api.ErrMissing},
	} {
		b, e := wind.ChangeIn(two(), x.heights)
		expectOnly(t, "heights", b, e, x.want)
	}
}

// P4.5
func TestProfileErrors(t *testing.T) {
	for _, x := range badProfiles() {
		for _, height := range []int{0, 5, -1} {
			b, e := wind.WindAt(x.layers, height)
			expectOnly(t, "profile", b, e, x.want)
			b, e = wind.ChangeIn(x.layers, ends(height, 5))
			expectOnly(t, "profile", b, e, x.want)
			b, e = wind.ChangeIn(x.layers, ends(5, height))
			expectOnly(t, "profile", b, e, x.want)
		}
	}
}

func rangesOf(b api.WindBox) []api.Range { return []api.Range{b.X, b.Y, b.Z} }

// P4.5, P4.12
func TestWindBetweenItsNeighbours(t *testing.T) {
	d := draws{12}
	for range 200 {
		l := d.profile(d.from(1, 12))
		for height := range l[len(l)-1].Height + 2 {
			b, e := wind.WindAt(l, height)
			i := slices.IndexFunc(l, func(x api.WindLayer) bool { return x.Height >= height })
			if i < 0 || i == 0 && height < l[0].Height {
				expectOnly(t, "missing", b, e, api.ErrMissing)
				continue
			}
			expect(t, "wind", e, api.OK)
			lower, upper := l[max(i-1, 0)], l[i]
			for k, x := range rangesOf(b) {
				p, q := rangesOf(lower.Wind)[k], rangesOf(upper.Wind)[k]
				if height == upper.Height {
					p = q
				}
				if x.Lo < min(p.Lo, q.Lo) || x.Hi > max(p.Hi, q.Hi) || x != on(lower.Height, upper.Height, p, q, height) {
					t.Fatal(l, height, b)
				}
			}
		}
	}
}

// on is the range of a height on the straight lines between two ranges.
func on(from, to int, a, b api.Range, height int) api.Range {
	if a == b {
		return a
	}
	at := func(x, y int) int {
		low := min(x, y)
		up := rat((y-x)*(height-from), to-from)
		return low + downTo(up.Add(up, whole(x-low)))
	}
	return ends(at(a.Lo, b.Lo), -at(-a.Hi, -b.Hi))
}

// P4.5, P4.12
func TestChangesByWinds(t *testing.T) {
	d := draws{121}
	for range 300 {
		l := d.profile(d.from(1, 12))
		from := d.from(l[0].Height, l[len(l)-1].Height)
		to := d.from(from, l[len(l)-1].Height)
		change, e := wind.ChangeIn(l, ends(from, to))
		expect(t, "change", e, api.OK)
		lower, _ := wind.WindAt(l, from)
		upper, _ := wind.WindAt(l, to)
		for k, x := range rangesOf(change) {
			a, b := rangesOf(lower)[k], rangesOf(upper)[k]
			if x.Lo != b.Lo-a.Hi || x.Hi != b.Hi-a.Lo {
				t.Fatal(l, from, to, change)
			}
		}
		none, e := wind.ChangeIn(l, ends(from, from))
		for _, x := range rangesOf(none) {
			if e != api.OK || x.Lo > 0 || x.Hi < 0 {
				t.Fatal(l, from, none, e)
			}
		}
	}
}
