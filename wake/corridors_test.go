package wake_test

import (
	"testing"

	"glidepath/api"
	"glidepath/wake"
)

// inCorridor counts the vortices that are in a corridor.
func (l vortices) inCorridor(c api.WakeCorridor) int {
	count := 0
	for v := range l {
		if v.At.Y >= c.Y.Lo && v.At.Y <= c.Y.Hi && v.At.Z >= c.Z.Lo && v.At.Z <= c.Z.Hi && v.Strength >= c.Limit {
			count++
		}
	}
	return count
}

// answers are those for a corridor from a tick, up to which all are From, to To, by the definition.
func answers(b api.WakeBox, d api.WakeDrift, c api.WakeCorridor) []int {
	free := make([]int, c.To+1)
	l := vorticesIn(b)
	for ticks := range free {
		free[ticks] = api.AnswerMaybe
		switch l.inCorridor(c) {
		case 0:
			free[ticks] = api.AnswerYes
		case len(l):
			free[ticks] = api.AnswerNo
		}
		l = l.moved(d)
	}
	for ticks := c.To - 1; ticks >= 0; ticks-- {
		free[ticks] = min(free[ticks], free[ticks+1])
	}
	return free
}

func (d *draws) corridor(y, z, strength, ticks, wide int) api.WakeCorridor {
	times := d.ends(0, ticks, ticks)
	return api.WakeCorridor{Y: d.ends(-y, y, wide), Z: d.ends(-1, z, wide), Limit: d.from(0, strength), From: times.Lo, To: times.Hi}
}

// P6.6, example 8
func TestIsFreeExamples(t *testing.T) {
	for _, c := range []struct {
		corridor api.WakeCorridor
		want     int
	}{
		{corridor(ends(20, 30), ends(0, 50), 1, 0, 10), api.AnswerYes},
		{corridor(ends(5, 30), ends(0, 50), 1, 0, 10), api.AnswerMaybe},
		{corridor(ends(5, 30), ends(0, 50), 1, 0, 2), api.AnswerYes},
		{corridor(ends(5, 30), ends(0, 50), 1, 3, 3), api.AnswerMaybe},
		{corridor(ends(-100, 100), ends(0, 100), 5, 0, 10), api.AnswerNo},
		{corridor(ends(-100, 100), ends(5, 50), 1, 0, 20), api.AnswerNo},
		{corridor(ends(-100, 100), ends(5, 50), 1, 8, 20), api.AnswerYes},
		{corridor(ends(-100, 100), ends(5, 50), 1, 7, 20), api.AnswerMaybe},
		// The ends belong to the corridor.
		{corridor(ends(0, 2), ends(10, 12), 8, 0, 0), api.AnswerNo},
		{corridor(ends(0, 1), ends(10, 12), 8, 0, 0), api.AnswerMaybe},
		{corridor(ends(1, 2), ends(10, 12), 8, 0, 0), api.AnswerMaybe},
		{corridor(ends(0, 2), ends(11, 12), 8, 0, 0), api.AnswerMaybe},
		{corridor(ends(0, 2), ends(10, 11), 8, 0, 0), api.AnswerMaybe},
		{corridor(ends(0, 2), ends(10, 12), 9, 0, 0), api.AnswerMaybe},
		{corridor(ends(2, 2), ends(12, 12), 10, 0, 0), api.AnswerMaybe},
		{corridor(ends(0, 2), ends(10, 12), 11, 0, 0), api.AnswerYes},
		{corridor(ends(3, 4), ends(10, 12), 8, 0, 0), api.AnswerYes},
		{corridor(ends(-4, -1), ends(10, 12), 8, 0, 0), api.AnswerYes},
		{corridor(ends(0, 2), ends(13, 14), 8, 0, 0), api.AnswerYes},
		{corridor(ends(0, 2), ends(-5, 9), 8, 0, 0), api.AnswerYes},
		// After a single tick in the middle every path is in it.
		{corridor(ends(-1000000, 1000000), ends(4, 9), 0, 0, 1000), api.AnswerNo},
		{corridor(ends(-1000000, 1000000), ends(4, 8), 0, 0, 3), api.AnswerMaybe},
		{corridor(ends(-1000000, 1000000), ends(-1000000, -1), 0, 0, 1000), api.AnswerYes},
	} {
		if got, e := wake.IsFree(b(), d(), c.corridor); got != c.want || e != api.OK {
			t.Errorf("%v: %d, %d, want %d", c.corridor, got, e, c.want)
		}
	}
}

// P6.6, edge case: a corridor with the limit 0 is not free of a vortex without circulation.
func TestLimitZero(t *testing.T) {
	calm := box(ends(0, 0), ends(5, 5), ends(0, 0))
	for limit, want := range []int{api.AnswerNo, api.AnswerYes} {
		if got, e := wake.IsFree(calm, api.WakeDrift{}, corridor(ends(0, 0), ends(5, 5), limit, 0, 1)); got != want || e != api.OK {
			t.Errorf("the limit %d: %d, %d, want %d", limit, got, e, want)
		}
	}
	// Nor is the one whose limit is the greatest free of the strongest vortex.
	strong := box(ends(0, 0), ends(5, 5), ends(10000, 10000))
	if got, e := wake.IsFree(strong, api.WakeDrift{}, corridor(ends(0, 0), ends(5, 5), 10000, 0, 1)); got != api.AnswerNo || e != api.OK {
		t.Errorf("the strongest vortex: %d, %d", got, e)
	}
}

// P6.6, example 8
func TestEarliestFreeExamples(t *testing.T) {
	for _, c := range []struct {
		corridor api.WakeCorridor
		want     int
		e        api.Errno
	}{
		{corridor(ends(-100, 100), ends(5, 50), 1, 0, 20), 8, api.OK},
		{corridor(ends(-100, 100), ends(5, 50), 1, 7, 20), 8, api.OK},
		{corridor(ends(-100, 100), ends(5, 50), 1, 8, 20), 8, api.OK},
		{corridor(ends(-100, 100), ends(5, 50), 1, 9, 20), 9, api.OK},
		{corridor(ends(-100, 100), ends(5, 50), 1, 20, 20), 20, api.OK},
		{corridor(ends(-100, 100), ends(5, 50), 1, 0, 8), 8, api.OK},
		{corridor(ends(-100, 100), ends(5, 50), 1, 0, 7), 0, api.ErrNone},
		{corridor(ends(-100, 100), ends(5, 50), 1, 7, 7), 0, api.ErrNone},
		{corridor(ends(20, 30), ends(0, 50), 1, 0, 10), 0, api.OK},
		{corridor(ends(-100, 100), ends(0, 100), 0, 0, 1000), 0, api.ErrNone},
		// It may be free before, but is not from then on.
		{corridor(ends(5, 30), ends(0, 50), 1, 0, 10), 0, api.ErrNone},
		{corridor(ends(5, 30), ends(3, 50), 1, 0, 10), 10, api.OK},
		{corridor(ends(1, 1), ends(0, 3), 1, 0, 10), 0, api.ErrNone},
	} {
		got, e := wake.EarliestFree(b(), d(), c.corridor)
		if got != c.want || e != c.e {
			t.Errorf("%v: %d, %d, want %d, %d", c.corridor, got, e, c.want, c.e)
		}
	}
}

// P6.6, P6.13: no path has a vortex in a corridor that is free; EarliestFree is free from its tick on, and not from the tick before.
func TestFreeByDefinition(t *testing.T) {
	draw := &draws{76}
	seen := [3]int{}
	late, none := 0, 0
	for range 150 {
		x, y := draw.box(3, 5, 5, 2), draw.drift(2, 1)
		for range 8 {
			c := draw.corridor(6, 5, 4, 5, 20)
			free := answers(x, y, c)
			got, e := wake.IsFree(x, y, c)
			if got != free[c.From] || e != api.OK {
				t.Fatalf("%v, %v, %v: %d, %d, want %d", x, y, c, got, e, free[c.From])
			}
			seen[got]++
			want, f := c.From, api.OK
			for want <= c.To && free[want] != api.AnswerYes {
				want++
			}
			if want > c.To {
				want, f = 0, api.ErrNone
				none++
			} else if want > c.From {
				late++
			}
			if got, e := wake.EarliestFree(x, y, c); got != want || e != f {
				t.Fatalf("%v, %v, %v: %d, %d, want %d, %d", x, y, c, got, e, want, f)
			}
		}
	}
	if min(seen[0], seen[1], seen[2], late, none) < 20 {
		t.Errorf("too few answers of a kind: %v, %d late, %d none", seen, late, none)
	}
}

// P6.13: a corridor that is free stays so for a box within, a smaller region, a greater limit, and fewer ticks.
func TestFreeWithin(t *testing.T) {
	draw := &draws{77}
	within := func(r api.Range) api.Range {
		lo := draw.from(r.Lo, r.Hi)
		return ends(lo, draw.from(lo, r.Hi))
	}
	count := 0
	for range 3000 {
		x, y, c := draw.box(60, 60, 60, 9), draw.drift(5, 3), draw.corridor(90, 90, 60, 30, 50)
		if free, e := wake.IsFree(x, y, c); free != api.AnswerYes || e != api.OK {
			continue
		}
		count++
		inner := box(within(x.Y), within(x.Z), within(x.Strength))
		times := within(ends(c.From, c.To))
		less := corridor(within(c.Y), within(c.Z), draw.from(c.Limit, 60), times.Lo, times.Hi)
		if free, e := wake.IsFree(inner, y, less); free != api.AnswerYes || e != api.OK {
			t.Fatalf("%v, %v, %v is free, but %v, %v is %d, %d", x, y, c, inner, less, free, e)
		}
		path := draw.path(x, y, c.To+1)
		for ticks := c.From; ticks <= c.To; ticks++ {
			v := vortices{path[ticks]: true}
			if v.inCorridor(c) > 0 {
				t.Fatalf("%v, %v, %v: %v is in it after %d", x, y, c, path, ticks)
			}
		}
	}
	if count < 100 {
		t.Error("too few corridors are free")
	}
}

// P6.6: the errors of the box, the drift and the corridor, in this order.
func TestFreeErrors(t *testing.T) {
	whole := corridor(ends(-1000000, 1000000), ends(-1000000, 1000000), 0, 0, 1000)
	reject := func(b api.WakeBox, d api.WakeDrift, c api.WakeCorridor, want api.Errno) {
		t.Helper()
		free, e := wake.IsFree(b, d, c)
		expectOnly(t, "IsFree", free, e, want)
		ticks, e := wake.EarliestFree(b, d, c)
		expectOnly(t, "EarliestFree", ticks, e, want)
	}
	for _, x := range badBoxes() {
		reject(x.value, d(), whole, x.want)
		reject(x.value, drift(ends(1, 0), ends(0, 0), ends(0, 0)), whole, x.want)
		reject(x.value, drift(ends(101, 0), ends(0, 0), ends(0, 0)), whole, x.want)
	}
	for _, x := range badDrifts() {
		reject(b(), x.value, whole, x.want)
		reject(b(), x.value, corridor(ends(1, 0), ends(0, 0), 0, 0, 0), x.want)
		reject(b(), x.value, corridor(ends(0, 0), ends(0, 0), -1, 0, 0), x.want)
	}
	for _, x := range badCorridors() {
		reject(b(), d(), x.value, x.want)
	}
	for _, x := range goodBoxes() {
		for _, y := range goodDrifts() {
			for _, c := range []api.WakeCorridor{
				{}, whole,
				corridor(ends(-1000000, -1000000), ends(-1000000, -1000000), 10000, 1000, 1000),
				corridor(ends(1000000, 1000000), ends(1000000, 1000000), 10000, 0, 1000),
			} {
				_, e := wake.IsFree(x, y, c)
				expect(t, "IsFree", e, api.OK)
				if _, e := wake.EarliestFree(x, y, c); e != api.OK && e != api.ErrNone {
					t.Errorf("%v, %v, %v: %d", x, y, c, e)
				}
			}
		}
	}
}
