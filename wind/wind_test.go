package wind_test

import (
	"reflect"
	"slices"
	"testing"

	"glidepath/api"
	"glidepath/wind"
)

// P4.1
func TestCheckReadings(t *testing.T) {
	for _, x := range badReadings() {
		if i, e := wind.CheckReadings(x.readings); i != x.index || e != x.want {
			t.Error(x.readings, i, e, x.index, x.want)
		}
	}
	for _, l := range [][]api.WindReading{
		r(),
		plane(),
		readings(reading(9, -9, 9, -10000, 10000)),
		readings(reading(0, 0, -1, 10000, 10000), reading(0, 0, -1, -10000, -10000)),
		slices.Repeat(r(), 2),
	} {
		if i, e := wind.CheckReadings(l); i != 0 || e != api.OK {
			t.Error(l, i, e)
		}
	}
}

// P4.1, P4.2, P4.3, P4.4
func TestReadingErrors(t *testing.T) {
	for _, x := range badReadings() {
		for what, answer := range answers(x.readings) {
			result, e := answer()
			expectOnly(t, what, result, e, x.want)
		}
	}
}

// P4.2, P4.3
func TestOpenReadings(t *testing.T) {
	contradicting := readings(reading(1, 0, 0, 0, 0), reading(1, 0, 0, 1, 1))
	for _, l := range [][]api.WindReading{plane(), readings(reading(1, 2, 3, 4, 5)), contradicting, append(plane(), contradicting...)} {
		for _, what := range []string{"fit", "residual", "vertices", "box"} {
			result, e := answers(l)[what]()
			expectOnly(t, what, result, e, api.ErrOpen)
		}
		span, e := wind.RangeIn(l, [3]int{1, 0, 0})
		expectOnly(t, "range", span, e, api.ErrOpen)
		headwind, e := wind.HeadwindIn(l, [3]int{1, 0, 0})
		expectOnly(t, "headwind", headwind, e, api.ErrOpen)
	}
}

// P4.1
func TestRankAndUndecided(t *testing.T) {
	for _, x := range []struct {
		directions [][3]int
		rank       int
		undecided  [][3]int
	}{
		{[][3]int{{1, 0, 0}, {0, 1, 0}, {0, 0, 1}}, 3, nil},
		{[][3]int{{1, 1, 0}, {2, 2, 0}}, 1, [][3]int{{-1, 1, 0}, {0, 0, 1}}},
		{[][3]int{{0, 0, -5}}, 1, [][3]int{{1, 0, 0}, {0, 1, 0}}},
		{[][3]int{{0, 3, 0}, {0, -6, 0}}, 1, [][3]int{{1, 0, 0}, {0, 0, 1}}},
		{[][3]int{{2, 4, 6}}, 1, [][3]int{{-2, 1, 0}, {-3, 0, 1}}},
		{[][3]int{{6, 4, 9}}, 1, [][3]int{{-2, 3, 0}, {-3, 0, 2}}},
		{[][3]int{{-4, 6, 0}}, 1, [][3]int{{3, 2, 0}, {0, 0, 1}}},
		{[][3]int{{0, 2, -3}}, 1, [][3]int{{1, 0, 0}, {0, 3, 2}}},
		{[][3]int{{0, 1, 0}, {0, 0, 1}}, 2, [][3]int{{1, 0, 0}}},
		{[][3]int{{1, 0, 0}, {0, 0, 1}}, 2, [][3]int{{0, 1, 0}}},
		{[][3]int{{0, 0, 1}, {1, 0, 0}}, 2, [][3]int{{0, 1, 0}}},
		{[][3]int{{1, 0, 0}, {0, 1, 0}, {3, -2, 0}}, 2, [][3]int{{0, 0, 1}}},
		{[][3]int{{1, 2, 3}, {4, 5, 6}, {7, 8, 9}}, 2, [][3]int{{1, -2, 1}}},
		{[][3]int{{1, 2, 3}, {-2, -4, 6}}, 2, [][3]int{{-2, 1, 0}}},
		{[][3]int{{9, 8, 0}, {0, 7, 9}}, 2, [][3]int{{8, -9, 7}}},
		{[][3]int{{1, 2, 3}, {2, 4, 6}, {3, 6, 9}, {1, 0, 0}, {0, 0, 2}}, 3, nil},
		{[][3]int{{9, 9, 8}, {9, 8, 9}, {8, 9, 9}, {9, -9, 9}, {-9, 9, 9}, {9, 9, -9}}, 3, nil},
	} {
		var l []api.WindReading
		for _, d := range x.directions {
			l = append(l, api.WindReading{Direction: d})
		}
		if rank, e := wind.RankOf(l); e != api.OK || rank != x.rank {
			t.Error(x, rank, e)
		}
		if undecided, e := wind.UndecidedOf(l); e != api.OK || !same(undecided, x.undecided) {
			t.Error(x, undecided, e)
		}
	}
}

// isFree compares the ranks of the coordinates before and after one more.
func isFree(directions [][3]int, k int) bool {
	before, after := slices.Clone(directions), slices.Clone(directions)
	for i := range directions {
		for c := k; c < 3; c++ {
			before[i][c] = 0
		}
		for c := k + 1; c < 3; c++ {
			after[i][c] = 0
		}
	}
	return rankBy(before) == rankBy(after)
}

// P4.1, P4.11
func TestUndecidedByItsDefinition(t *testing.T) {
	d := draws{1}
	ranks := map[int]int{}
	for n := range 600 {
		l := d.readings(d.from(1, 6), 1+n%9, 5)
		if n%3 == 0 {
			l = slices.Repeat(l[:1], 2)
			l[1].Direction = [3]int{-l[0].Direction[0], -l[0].Direction[1], -l[0].Direction[2]}
		}
		directions := directionsOf(l)
		var free []int
		for k := range 3 {
			if isFree(directions, k) {
				free = append(free, k)
			}
		}
		rank, e := wind.RankOf(l)
		if e != api.OK || rank != rankBy(directions) {
			t.Fatal(l, rank, e)
		}
		ranks[rank]++
		undecided, e := wind.UndecidedOf(l)
		if e != api.OK || len(undecided) != 3-rank || len(undecided) != len(free) {
			t.Fatal(l, rank, undecided, e)
		}
		for i, v := range undecided {
			if v[free[i]] <= 0 || isDivided(v[:]...) {
				t.Fatal(l, undecided)
			}
			for _, k := range free {
				if k != free[i] && v[k] != 0 {
					t.Fatal(l, undecided)
				}
			}
			for _, x := range directions {
				if product(v, x) != 0 {
					t.Fatal(l, undecided)
				}
			}
		}
	}
	for rank := 1; rank <= 3; rank++ {
		if ranks[rank] < 20 {
			t.Error("too few cases of the rank", rank, ranks[rank])
		}
	}
}

// P4.11
func TestMultiplesOfTheUndecidedAgree(t *testing.T) {
	d := draws{11}
	count := 0
	for range 300 {
		v := [3]int{d.from(-30, 30), d.from(-30, 30), d.from(-30, 30)}
		l := d.around(v, d.from(1, 2), 3, 4)
		undecided, e := wind.UndecidedOf(l)
		expect(t, "undecided", e, api.OK)
		for _, u := range undecided {
			v = [3]int{v[0] + 7*u[0], v[1] + 7*u[1], v[2] + 7*u[2]}
			for _, multiple := range []int{-1000000, -1, 0, 1, 12345} {
				moved := vector(v[0]+multiple*u[0], v[1]+multiple*u[1], v[2]+multiple*u[2], 1)
				if is, e := wind.HasWind(l, moved); e != api.OK || !is {
					t.Fatal(l, moved, is, e)
				}
				count++
			}
		}
	}
	if count < 1000 {
		t.Error("too few cases", count)
	}
}

// R3, R4
func TestArgumentsStay(t *testing.T) {
	for _, make := range []func() []api.WindReading{
		func() []api.WindReading { return r() },
		func() []api.WindReading { return r(reading(1, 0, 1, 8, 9)) },
		plane,
		func() []api.WindReading { return readings(reading(2, 2, 0, 0, 1)) },
	} {
		l := make()
		for what, answer := range answers(l) {
			before, _ := answer()
			again, _ := answer()
			if !reflect.DeepEqual(before, again) || !reflect.DeepEqual(l, make()) {
				t.Error(what, before, again, l)
			}
			switch result := again.(type) {
			case [][3]int:
				clear(result)
			case []api.WindVector:
				clear(result)
			case api.WindProof:
				clear(result.Readings)
				clear(result.Factors)
			}
			if later, _ := answer(); !reflect.DeepEqual(before, later) {
				t.Error(what, before, later)
			}
		}
	}
}
