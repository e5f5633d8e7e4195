package tower_test

import (
	"slices"
	"strconv"
	"testing"

	"glidepath/api"
	"glidepath/spacing"
	"glidepath/tower"
)

// P10.2, P10.3
func TestArrivals(t *testing.T) {
	log := l()[:4]
	want := stateOf(t, three(), log)
	for _, c := range []struct {
		line  string
		strip int
		want  api.SpacingArrival
	}{
		{"11 con arrival r1 aa1 0 100 900 1", 0, arrival("aa1", 0, 100, 900, 1)},
		{"11 dan arrival r3 b 1 0 0 0", 2, arrival("b", 1, 0, 0, 0)},
		{"12 eve arrival r1 abcdefghijkl 1 100000 100000 100", 0, arrival("abcdefghijkl", 1, 100000, 100000, 100)},
		{"12 ida arrival r1 l1 0 5 5 7", 0, arrival("l1", 0, 5, 5, 7)},
	} {
		log = append(log, entry(c.line))
		want.Strips[c.strip].Arrivals = append(want.Strips[c.strip].Arrivals, c.want)
		if got := stateOf(t, three(), log); !alike(got, want) {
			t.Errorf("after %q: %v, want %v", c.line, got, want)
		}
	}
}

// six are the lines of as many arrivals of the runway r1 as there may be, after the log of the
// examples.
func six() []string {
	var lines []string
	for i := range 5 {
		lines = append(lines, "14 con arrival r1 x"+strconv.Itoa(i)+" 0 0 10000 "+strconv.Itoa(i))
	}
	return lines
}

// P10.2
func TestArrivalErrors(t *testing.T) {
	many := "b 0 0 0 0;c 0 0 0 0;d 0 0 0 0;e 0 0 0 0;f 0 0 0 0;g 0 0 0 0"
	other := []string{"14 con arrival r2 zz 0 0 10 1"}
	expectRefused(t, three(), l(),
		refused{nil, "15 con arrival r9 x", api.ErrMissing},
		refused{nil, "15 con arrival r9 aa1 0 0 0 0", api.ErrMissing},
		refused{nil, "15 con arrival r9 ", api.ErrMissing},
		refused{nil, "15 con arrival r1 x", api.ErrSyntax},
		refused{nil, "15 con arrival r1  bb2 0 0 0 0", api.ErrSyntax},
		refused{nil, "15 con arrival r1 bb2 0 0 0 0 ", api.ErrSyntax},
		refused{nil, "15 con arrival r1 bb2 0 0 0 0;", api.ErrSyntax},
		refused{nil, "15 con arrival r1 aa1 0 0 0", api.ErrSyntax},
		refused{nil, "15 con arrival r1 aa1 0 0 0 -1", api.ErrSyntax},
		refused{nil, "15 con arrival r1 " + many + ";h 0 0 0 0", api.ErrLarge},
		refused{nil, "15 con arrival r1 1 0 0 0 0", api.ErrName},
		refused{nil, "15 con arrival r1 aa1 0 0 0 0;aa1 0 0 0 0", api.ErrExists},
		refused{nil, "15 con arrival r1 aa1 4 0 0 0", api.ErrRange},
		refused{nil, "15 con arrival r1 aa1 0 0 100001 0", api.ErrRange},
		refused{nil, "15 con arrival r1 aa1 0 5 4 0", api.ErrOrder},
		refused{nil, "15 con arrival r1 ", api.ErrShape},
		refused{nil, "15 con arrival r1 aa1 0 0 0 0;b 0 0 0 0", api.ErrShape},
		refused{nil, "15 con arrival r1 " + many, api.ErrShape},
		refused{nil, "15 con arrival r1 aa1 3 0 0 0", api.ErrExists},
		refused{nil, "15 con arrival r1 aa1 0 100 900 1", api.ErrExists},
		refused{nil, "15 con arrival r2 aa1 0 100 900 1", api.ErrExists},
		refused{nil, "15 con arrival r3 aa1 3 100 900 1", api.ErrExists},
		refused{other, "15 con arrival r1 zz 0 0 0 0", api.ErrExists},
		refused{other, "15 con arrival r2 zz 0 0 0 0", api.ErrExists},
		refused{nil, "15 con arrival r1 bb2 2 0 0 0", api.ErrMissing},
		refused{nil, "15 con arrival r2 bb2 3 0 0 0", api.ErrMissing},
		refused{six(), "15 con arrival r1 bb2 0 0 0 0", api.ErrLarge},
		refused{six(), "15 con arrival r1 bb2 2 0 0 0", api.ErrLarge},
		refused{six(), "15 con arrival r1 aa1 0 0 0 0", api.ErrExists},
		refused{six(), "15 con arrival r2 x4 0 0 0 0", api.ErrExists},
	)
	// Another strip has as many.
	if s := stateOf(t, three(), after(append(six(), "15 con arrival r3 bb2 0 0 0 0")...)); len(s.Strips[0].Arrivals) != 6 || len(s.Strips[2].Arrivals) != 1 {
		t.Errorf("%v", s)
	}
}

// P10.2, P10.3: Free ascends.
func TestFree(t *testing.T) {
	log := after(append(six(), "14 con arrival r2 zz 0 0 10 1")...)
	want := stateOf(t, three(), log)
	for _, c := range []struct {
		line      string
		first, to []int
	}{
		{"15 con free x3", []int{4}, nil}, {"15 con free aa1", []int{0, 4}, nil}, {"15 con free x4", []int{0, 4, 5}, nil}, {"16 con free zz", []int{0, 4, 5}, []int{0}}, {"16 dan free x0", []int{0, 1, 4, 5}, []int{0}}, {"16 ida free x2", []int{0, 1, 3, 4, 5}, []int{0}}, {"16 ida free x1", []int{0, 1, 2, 3, 4, 5}, []int{0}},
	} {
		log = append(log, entry(c.line))
		want.Strips[0].Free, want.Strips[1].Free = c.first, c.to
		if got := stateOf(t, three(), log); !alike(got, want) {
			t.Errorf("after %q: %v, want %v", c.line, got, want)
		}
	}
	expectRefused(t, three(), log,
		refused{nil, "17 con free x5", api.ErrMissing}, refused{nil, "17 con free r1", api.ErrMissing}, refused{nil, "17 con free l1", api.ErrMissing},
		refused{nil, "17 con free x1", api.ErrDouble}, refused{nil, "17 con free zz", api.ErrDouble}, refused{nil, "17 con free aa1", api.ErrDouble},
	)
}

// P10.2, P10.3, examples 3 and 4
func TestRelease(t *testing.T) {
	want := stateOf(t, n(), l()[:6])
	want.Strips[0].Slots, want.Releases = []api.SpacingSlot{slot(0, 100)}, []api.TowerRelease{{Arrival: "aa1", By: "con", Time: 100}}
	if got := stateOf(t, n(), l()); !alike(got, want) {
		t.Errorf("%v, want %v", got, want)
	}
	late := append(l()[:6], entry("71 dan release aa1 100"))
	want.Releases[0].By = "dan"
	if got := stateOf(t, n(), late); !alike(got, want) {
		t.Errorf("%v, want %v", got, want)
	}
	log := after("14 con arrival r1 bb2 0 120 900 1", "15 con release bb2 190")
	want = stateOf(t, n(), log[:8])
	want.Strips[0].Slots = append(want.Strips[0].Slots, slot(1, 190))
	want.Releases = append(want.Releases, api.TowerRelease{Arrival: "bb2", By: "con", Time: 190})
	if got := stateOf(t, n(), log); !alike(got, want) {
		t.Errorf("%v, want %v", got, want)
	}
}

// P10.2: the corridor behind an arrival counts as free from the entry on that says so.
func TestReleaseBehindFree(t *testing.T) {
	before := []string{"14 con arrival r1 bb2 1 120 900 1", "14 con arrival r1 cc3 0 0 900 1"}
	expectRefused(t, three(), after(before...), refused{nil, "15 con release cc3 189", api.ErrBreak}, refused{[]string{"15 con free cc3", "15 con free bb2"}, "15 con release cc3 189", api.ErrBreak}, refused{[]string{"15 con free aa1"}, "15 con release cc3 149", api.ErrBreak})
	for _, further := range [][]string{{"15 con release cc3 190"}, {"15 con free aa1", "15 con release cc3 150"}, {"15 con free aa1", "15 con release bb2 140"}} {
		stateOf(t, three(), after(append(slices.Clone(before), further...)...))
	}
}

// P10.2, examples 3, 4 and 6
func TestReleaseErrors(t *testing.T) {
	closed := []string{"14 con arrival r1 bb2 0 120 900 1", "14 ida close r1 snow"}
	bb2 := closed[:1]
	reopened := append(slices.Clone(closed), "15 ida open r1")
	expectRefused(t, n(), l(),
		refused{nil, "16 dan release bb2 9999999", api.ErrMissing},
		refused{nil, "16 con release r1 100", api.ErrMissing},
		refused{closed, "16 dan release bb2 9999999", api.ErrState},
		refused{closed, "16 con release bb2 190", api.ErrState},
		refused{closed, "80 con release aa1 190", api.ErrState},
		refused{bb2, "16 dan release bb2 9999999", api.ErrRefused},
		refused{bb2, "16 dan release aa1 190", api.ErrRefused},
		refused{bb2, "16 ida release bb2 190", api.ErrRefused},
		refused{bb2, "70 dan release bb2 190", api.ErrRefused},
		refused{reopened, "16 dan release bb2 190", api.ErrRefused},
		// Only with the number that stands.
		refused{append(slices.Clone(bb2), "71 con assess r1"), "72 con release bb2 190", api.ErrRefused},
		refused{nil, "16 con release aa1 9999999", api.ErrDouble},
		refused{bb2, "16 con release bb2 9999999", api.ErrRange},
		refused{bb2, "16 con release bb2 119", api.ErrRange},
		refused{bb2, "16 con release bb2 901", api.ErrRange},
		refused{bb2, "16 con release bb2 0", api.ErrRange},
		refused{bb2, "16 con release bb2 150", api.ErrBreak},
		refused{bb2, "16 con release bb2 189", api.ErrBreak},
	)
	expectRefused(t, n(), l()[:6], refused{nil, "13 dan release aa1 100", api.ErrRefused})
	for _, further := range [][]string{{"16 con release bb2 190"}, {"16 con release bb2 900"}, {"71 dan release bb2 190"}, {"16 dan ack r1 1", "16 dan release bb2 190"}} {
		stateOf(t, n(), after(append(slices.Clone(bb2), further...)...))
		stateOf(t, n(), after(append(slices.Clone(reopened), further...)...))
	}
}

// P10.2: only the alert and the closure of the own runway count.
func TestReleaseElsewhere(t *testing.T) {
	log := after("14 con arrival r2 bb2 0 120 900 1", "14 con arrival r1 cc3 0 120 900 1")
	stateOf(t, three(), append(log, entries("15 ida close r1 snow", "15 dan release bb2 120")...))
	stateOf(t, three(), append(log, entries("15 ida close r2 snow", "15 con release cc3 190")...))
	// Separations are those of a runway alone.
	stateOf(t, three(), append(log, entries("15 con release cc3 190", "15 con release bb2 191")...))
}

// P10.2, P10.3, example 5: who goes around may be released again.
func TestAround(t *testing.T) {
	log := after("14 con arrival r1 bb2 0 120 900 1", "14 con free bb2", "14 con free aa1", "14 con release bb2 190")
	want := stateOf(t, n(), log)
	log = append(log, entry("15 con around aa1 300"))
	want.Strips[0].Arrivals[0], want.Strips[0].Free, want.Strips[0].Slots = arrival("aa1", 0, 400, 1200, 1), []int{1}, []api.SpacingSlot{slot(1, 190)}
	if got := stateOf(t, n(), log); !alike(got, want) {
		t.Errorf("%v, want %v", got, want)
	}
	if answer, e := tower.Answer(n(), after("15 con around aa1 300"), "slots r1"); answer != "-" || e != api.OK {
		t.Errorf("%q, error %d", answer, e)
	}
	again := append(slices.Clone(log), entry("71 dan release aa1 1200"))
	want.Strips[0].Slots = append(want.Strips[0].Slots, slot(0, 1200))
	want.Releases = append(want.Releases, api.TowerRelease{Arrival: "aa1", By: "dan", Time: 1200})
	if got := stateOf(t, n(), again); !alike(got, want) {
		t.Errorf("%v, want %v", got, want)
	}
	// The one between two others.
	log = append(again, entry("72 con around bb2 3600"))
	want.Strips[0].Arrivals[1], want.Strips[0].Free, want.Strips[0].Slots = arrival("bb2", 0, 3790, 4570, 1), nil, []api.SpacingSlot{slot(0, 1200)}
	if got := stateOf(t, n(), log); !alike(got, want) {
		t.Errorf("%v, want %v", got, want)
	}
}

// P10.2
func TestAroundErrors(t *testing.T) {
	before := []string{"14 con arrival r1 bb2 0 120 900 1", "14 con arrival r1 cc3 0 0 100000 1", "14 con release cc3 190"}
	expectRefused(t, n(), after(before...),
		refused{nil, "15 con around dd4 0", api.ErrMissing},
		refused{nil, "15 con around r1 300", api.ErrMissing},
		refused{nil, "15 con around bb2 0", api.ErrState},
		refused{nil, "15 con around bb2 300", api.ErrState},
		refused{[]string{"15 con around aa1 300"}, "15 con around aa1 300", api.ErrState},
		refused{nil, "15 con around aa1 0", api.ErrRange},
		refused{nil, "15 con around aa1 3601", api.ErrRange},
		refused{nil, "15 con around cc3 0", api.ErrRange},
		refused{nil, "15 con around cc3 3601", api.ErrRange},
		refused{nil, "15 con around cc3 1", api.ErrBreak},
	)
	stateOf(t, n(), after(append(before, "15 con around aa1 3600")...))
	stateOf(t, n(), after(append(before, "15 con around aa1 1")...))
	// Also while the runway is closed.
	stateOf(t, n(), after(append(before, "15 ida close r1 x", "15 con around aa1 1")...))
}

// P10.2, P10.3, example 6
func TestClosures(t *testing.T) {
	log := l()
	want := stateOf(t, three(), log)
	for _, c := range []struct {
		line   string
		closed [3]bool
	}{
		{"14 ida close r2 snow", [3]bool{false, true, false}}, {"14 ida close r1  ", [3]bool{true, true, false}}, {"15 ida open r2", [3]bool{true, false, false}}, {"15 ida close r3 a b  c ", [3]bool{true, false, true}}, {"15 ida open r1", [3]bool{false, false, true}}, {"16 ida close r1 r1", [3]bool{true, false, true}},
	} {
		log = append(log, entry(c.line))
		for i, closed := range c.closed {
			want.Strips[i].Closed = closed
		}
		if got := stateOf(t, three(), log); !alike(got, want) {
			t.Errorf("after %q: %v, want %v", c.line, got, want)
		}
	}
	expectRefused(t, three(), log,
		refused{nil, "17 ida close r9 ", api.ErrMissing}, refused{nil, "17 ida close l1 snow", api.ErrMissing},
		refused{nil, "17 ida close r2 ", api.ErrForm}, refused{nil, "17 ida close r1 ", api.ErrForm},
		refused{nil, "17 ida close r1 snow", api.ErrState}, refused{nil, "17 ida close r3 snow", api.ErrState},
		refused{nil, "17 ida open r9", api.ErrMissing}, refused{nil, "17 ida open l1", api.ErrMissing},
		refused{nil, "17 ida open r2", api.ErrState},
		refused{nil, "17 con close r2 snow", api.ErrAllowed}, refused{nil, "17 eve close r2 snow", api.ErrAllowed}, refused{nil, "17 eve open r1", api.ErrAllowed},
	)
}

// P10.5
func TestPlanFor(t *testing.T) {
	for _, c := range []struct {
		log    []api.TowerEntry
		runway string
		want   []api.SpacingSlot
		cost   int
	}{
		{nil, "r1", nil, 0}, {l()[:4], "r1", nil, 0}, {l(), "r2", nil, 0}, {l(), "r3", nil, 0},
		{l(), "r1", []api.SpacingSlot{slot(0, 100)}, 0},
		{l()[:5], "r1", []api.SpacingSlot{slot(0, 100)}, 0},
		{after("14 con arrival r1 bb2 0 120 900 1"), "r1", []api.SpacingSlot{slot(0, 100), slot(1, 190)}, 70},
		{after("14 con arrival r1 bb2 0 120 900 1", "15 con free aa1"), "r1", []api.SpacingSlot{slot(0, 100), slot(1, 150)}, 30},
		// Whoever has a slot is not moved.
		{after("14 con arrival r1 bb2 0 0 900 100", "14 con arrival r1 cc3 1 0 900 1"), "r1", []api.SpacingSlot{slot(0, 100), slot(1, 190), slot(2, 250)}, 19250},
		{after("14 con arrival r1 bb2 0 0 900 100", "14 con arrival r1 cc3 1 0 900 1", "15 con around aa1 300"), "r1", []api.SpacingSlot{slot(1, 0), slot(2, 60), slot(0, 400)}, 60},
		{after("14 con arrival r1 bb2 0 0 900 100", "15 con release bb2 700"), "r1", []api.SpacingSlot{slot(0, 100), slot(1, 700)}, 70000},
	} {
		plan, cost, e := tower.PlanFor(three(), c.log, c.runway)
		if !same(plan, c.want) || cost != c.cost || e != api.OK {
			t.Errorf("%v: %v, %d, error %d, want %v, %d", c.log, plan, cost, e, c.want, c.cost)
		}
	}
	for _, further := range [][]string{{"14 con arrival r1 bb2 0 0 99 1"}, {"14 con arrival r1 bb2 0 0 189 1"}, {"14 con arrival r1 bb2 0 0 190 1", "14 con arrival r1 cc3 0 0 190 1"}} {
		plan, cost, e := tower.PlanFor(n(), after(further...), "r1")
		if expectOnly(t, "PlanFor", plan, e, api.ErrNone); cost != 0 {
			t.Errorf("cost %d together with an error", cost)
		}
		_, _, e = tower.PlanFor(n(), after(further...), "r2")
		expect(t, "PlanFor", e, api.ErrMissing)
	}
}

// R3: what is returned is not used again.
func TestPlanIsNew(t *testing.T) {
	log := after("14 con arrival r1 bb2 0 120 900 1")
	plan, _, _ := tower.PlanFor(n(), log, "r1")
	plan[0].Time = 7
	if again, _, _ := tower.PlanFor(n(), log, "r1"); spacing.FormatPlan(again) != "0 100;1 190" {
		t.Errorf("%v", again)
	}
}
