package tower_test

import (
	"reflect"
	"testing"

	"glidepath/api"
	"glidepath/tower"
)

// P10.3
func TestFirstState(t *testing.T) {
	first := api.TowerStrip{Alert: rests(0, -1)}
	for _, c := range []struct {
		net  api.TowerNet
		want api.TowerState
	}{
		{n(), api.TowerState{Strips: []api.TowerStrip{first}}},
		{three(), api.TowerState{Strips: []api.TowerStrip{first, first, first}}},
	} {
		if got := stateOf(t, c.net, nil); !alike(got, c.want) {
			t.Errorf("%v, want %v", got, c.want)
		}
		if got, e := tower.StateAt(c.net, l(), 0); !alike(got, c.want) || e != api.OK {
			t.Errorf("%v, error %d, want %v", got, e, c.want)
		}
	}
}

// P10.3
func TestWholeState(t *testing.T) {
	s := stateOf(t, three(), busy())
	scans := s.Scans
	s.Scans = nil
	want := api.TowerState{
		Lidars: []api.TowerLidar{{Name: "l1", Works: true}, {Name: "l2", Works: true}},
		Strips: []api.TowerStrip{
			{
				Profile: []api.ShearGate{gate(0, 900, 1000), gate(1000, 200, 300)}, Events: []api.ShearEvent{event(10, 600, 800)}, Alert: stands(1, 10, 10, -1), Known: []string{"con", "dan"},
				Arrivals: []api.SpacingArrival{arrival("aa1", 0, 400, 1200, 1), arrival("cc3", 1, 100, 2000, 0)}, Free: []int{1}, Slots: []api.SpacingSlot{slot(1, 160), slot(0, 500)},
			},
			{
				Profile: []api.ShearGate{gate(100, 80, 100), gate(300, -205, -200)}, Events: []api.ShearEvent{event(10, 280, 305)}, Alert: stands(1, 10, 10, -1),
				Arrivals: []api.SpacingArrival{arrival("bb2", 1, 50, 500, 2)}, Slots: []api.SpacingSlot{slot(0, 60)},
			},
			{Alert: rests(0, -1), Closed: true},
		},
		Releases: []api.TowerRelease{{Arrival: "aa1", By: "con", Time: 100}, {Arrival: "cc3", By: "dan", Time: 160}, {Arrival: "bb2", By: "con", Time: 60}, {Arrival: "aa1", By: "con", Time: 500}},
	}
	if !alike(s, want) || len(scans) != 4 {
		t.Errorf("%v, %v, want %v", s, scans, want)
	}
}

// P10.3
func TestStateAt(t *testing.T) {
	log := busy()
	for _, tick := range []int{0, 1, 2, 3, 4, 5, 6, 7, 9, 10, 11, 15, 20, 21, 22, 23, 24, 1000, 1000000000000} {
		var begun []api.TowerEntry
		for _, x := range log {
			if x.At <= tick {
				begun = append(begun, x)
			}
		}
		got, e := tower.StateAt(three(), log, tick)
		if want := stateOf(t, three(), begun); !alike(got, want) || e != api.OK {
			t.Errorf("at %d: %v, error %d, want %v", tick, got, e, want)
		}
	}
	// The alert is that after the last event, also when it has expired.
	if s, _ := tower.StateAt(n(), l(), 1000000000000); s.Strips[0].Alert != stands(1, 10, 10, -1) {
		t.Errorf("%v", s)
	}
	for _, tick := range beyond(0, 1000000000000) {
		s, e := tower.StateAt(n(), l(), tick)
		expectOnly(t, "StateAt", s, e, api.ErrRange)
	}
}

// P10.3
func TestStripOf(t *testing.T) {
	for i, name := range []string{"r1", "r2", "r3"} {
		got, e := tower.StripOf(three(), busy(), name)
		if want := stateOf(t, three(), busy()).Strips[i]; !alike(got, want) || e != api.OK {
			t.Errorf("%s: %v, error %d, want %v", name, got, e, want)
		}
	}
}

// P10.3 to P10.7: the errors of the log come before those of the other arguments.
func TestLogErrors(t *testing.T) {
	for i, c := range badLogs() {
		runway, number := []string{"r1", "r9"}[i%2], []int{0, -1}[i%2]
		for what, call := range map[string]func() (any, api.Errno){
			"StateOf":  func() (any, api.Errno) { return two(tower.StateOf(n(), c.value)) },
			"StateAt":  func() (any, api.Errno) { return two(tower.StateAt(n(), c.value, number)) },
			"StripOf":  func() (any, api.Errno) { return two(tower.StripOf(n(), c.value, runway)) },
			"AlertsOn": func() (any, api.Errno) { return two(tower.AlertsOn(n(), c.value, runway)) },
			"StandsOn": func() (any, api.Errno) {
				return two(tower.StandsOn(n(), c.value, api.TowerLook{Runway: runway, At: number}))
			},
			"BlindOn": func() (any, api.Errno) { return two(tower.BlindOn(n(), c.value, runway, number)) },
			"Journal": func() (any, api.Errno) { return two(tower.Journal(n(), c.value)) },
			"Answer":  func() (any, api.Errno) { return two(tower.Answer(n(), c.value, []string{"count", "x"}[i%2])) },
		} {
			result, e := call()
			expectOnly(t, what, result, e, c.want)
		}
		plan, cost, e := tower.PlanFor(n(), c.value, runway)
		expectOnly(t, "PlanFor", plan, e, c.want)
		other := [][]api.TowerEntry{nil, l(), entries("1 nobody x"), make([]api.TowerEntry, 61)}[i%4]
		merged, refused, e := tower.Merged(n(), c.value, other)
		expectOnly(t, "Merged", merged, e, c.want)
		second, also, e := tower.Merged(n(), [][]api.TowerEntry{nil, l()}[i%2], c.value)
		expectOnly(t, "Merged", second, e, c.want)
		if cost != 0 || len(refused)+len(also) != 0 {
			t.Errorf("%d, %v and %v together with an error", cost, refused, also)
		}
	}
}

// P10.3 to P10.5: the error of a runway comes before those of other arguments.
func TestRunwayErrors(t *testing.T) {
	for _, name := range append(badNames(), "r2", "R1", "r", "r11", "r1 ", "l1", "aa1", "eve") {
		strip, e := tower.StripOf(n(), l(), name)
		expectOnly(t, "StripOf", strip, e, api.ErrMissing)
		alerts, e := tower.AlertsOn(n(), l(), name)
		expectOnly(t, "AlertsOn", alerts, e, api.ErrMissing)
		plan, _, e := tower.PlanFor(n(), l(), name)
		expectOnly(t, "PlanFor", plan, e, api.ErrMissing)
		for _, number := range []int{0, -1} {
			is, e := tower.StandsOn(n(), l(), api.TowerLook{Runway: name, At: number})
			expectOnly(t, "StandsOn", is, e, api.ErrMissing)
			blind, e := tower.BlindOn(n(), l(), name, number)
			expectOnly(t, "BlindOn", blind, e, api.ErrMissing)
		}
	}
}

// R3: the slices of a state are its own.
func TestStateIsNew(t *testing.T) {
	net, log := three(), busy()
	spoiled := stateOf(t, net, log)
	for _, x := range spoiled.Scans {
		spoil(x.Readings)
	}
	for _, x := range spoiled.Strips {
		spoil(x.Profile)
		spoil(x.Events)
		spoil(x.Known)
		spoil(x.Arrivals)
		spoil(x.Free)
		spoil(x.Slots)
	}
	spoil(spoiled.Strips)
	if !reflect.DeepEqual(net, three()) || !reflect.DeepEqual(log, busy()) {
		t.Error("an argument is changed")
	}
	if alike(stateOf(t, net, log), spoiled) {
		t.Error("the state is kept")
	}
}

// spoil changes a slice also behind its end.
func spoil[T any](l []T) {
	l = l[:cap(l)]
	for i := range l {
		var zero T
		l[i] = zero
	}
}

// R3: no two slices of a state share memory.
func TestSlicesAreApart(t *testing.T) {
	s := stateOf(t, three(), busy())
	want := stateOf(t, three(), busy())
	for _, x := range s.Strips {
		spoil(x.Profile)
		spoil(x.Free)
	}
	for i := range s.Strips {
		want.Strips[i].Profile = make([]api.ShearGate, len(want.Strips[i].Profile))
		want.Strips[i].Free = make([]int, len(want.Strips[i].Free))
	}
	if !alike(s, want) {
		t.Errorf("%v, want %v", s, want)
	}
}
