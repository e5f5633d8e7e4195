package tower_test

import (
	"testing"

	"glidepath/api"
	"glidepath/tower"
)

// P10.2, P10.3, example 1
func TestAssess(t *testing.T) {
	want := stateOf(t, n(), l()[:3])
	want.Strips[0].Events = []api.ShearEvent{event(10, 600, 800)}
	want.Strips[0].Alert = stands(1, 10, 10, -1)
	if got := stateOf(t, n(), l()[:4]); !alike(got, want) {
		t.Errorf("%v, want %v", got, want)
	}
	// Only the net's length counts.
	near := n()
	near.Length = 999
	expectRefused(t, near, l()[:3], refused{nil, "10 con assess r1", api.ErrNone})
	far := n()
	far.Length = 50000
	log := append(l()[:3], entries("7 con "+scan("l1", "r1", 50000, -900, -800), "8 con assess r1")...)
	if s := stripOf(t, far, log); !same(s.Events, []api.ShearEvent{event(8, 1700, 1900)}) {
		t.Errorf("%v", s)
	}
	if s := stripOf(t, n(), log); !same(s.Events, []api.ShearEvent{event(8, 600, 800)}) {
		t.Errorf("%v", s)
	}
}

// P10.2: without two gates within the length nothing is heard.
func TestAssessErrors(t *testing.T) {
	for _, x := range []refused{
		{nil, "14 con assess r9", api.ErrMissing},
		{nil, "14 con assess l1", api.ErrMissing},
		{[]string{"14 con assess r1"}, "14 con assess r1", api.ErrOrder},
		{[]string{"14 con assess r1", "14 gus note x"}, "14 dan assess r1", api.ErrOrder},
	} {
		expectRefused(t, n(), l(), x)
	}
	for _, x := range []refused{
		{nil, "3 con assess r1", api.ErrNone},
		{[]string{"3 con " + scan("l1", "r1", 0, 0, 0)}, "3 con assess r1", api.ErrNone},
		{[]string{"3 con " + scan("l1", "r1", 0, 0, 0), "3 con " + scan("l1", "r1", 1001, 0, 0)}, "3 con assess r1", api.ErrNone},
		{[]string{"3 con " + scan("l1", "r1", 0, 0, 0), "3 con " + scan("l1", "r1", 0, 5, 5)}, "3 con assess r1", api.ErrNone},
		{[]string{"3 con " + scan("l1", "r2", 0, 0, 0), "3 con " + scan("l1", "r2", 1, 5, 5)}, "3 con assess r1", api.ErrNone},
	} {
		expectRefused(t, three(), l()[:1], x)
	}
}

// P10.2: a strip has so many events, and another one as many.
func TestManyEvents(t *testing.T) {
	log := append(l()[:3], entries("6 con "+scan("l1", "r3", 0, 9, 9), "6 con "+scan("l1", "r3", 1, 0, 0))...)
	for at := range 40 {
		log = append(log, api.TowerEntry{At: 10 + at, By: "con", Text: "assess r1"})
	}
	if s := stripOf(t, three(), log); len(s.Events) != 40 || s.Alert != stands(1, 10, 49, -1) {
		t.Errorf("%v", s)
	}
	expectRefused(t, three(), log, refused{nil, "50 con assess r1", api.ErrFull}, refused{nil, "49 con assess r1", api.ErrFull})
	stateOf(t, three(), append(log, entry("49 con assess r3")))
}

// P10.2: nobody has acknowledged a further alert, and who has acknowledged one stays known while
// its number does.
func TestKnown(t *testing.T) {
	log := l()[:4]
	for _, c := range []struct {
		line   string
		alert  api.ShearState
		known  []string
		events int
	}{
		{"12 dan ack r1 1", stands(1, 10, 10, -1), []string{"dan"}, 1},
		{"12 con ack r1 1", stands(1, 10, 10, -1), []string{"dan", "con"}, 1},
		{"13 con assess r1", stands(1, 10, 13, -1), []string{"dan", "con"}, 2},
		{"14 con " + scan("l1", "r1", 0, 200, 300), stands(1, 10, 13, -1), []string{"dan", "con"}, 2},
		{"15 con assess r1", stands(1, 10, 15, 15), []string{"dan", "con"}, 3},
		{"15 ida ack r1 1", stands(1, 10, 15, 15), []string{"dan", "con", "ida"}, 3},
		{"35 con assess r1", rests(1, 35), []string{"dan", "con", "ida"}, 4},
		{"36 con assess r1", rests(1, 36), []string{"dan", "con", "ida"}, 5},
		{"37 con " + scan("l1", "r1", 0, 900, 1000), rests(1, 36), []string{"dan", "con", "ida"}, 5},
		{"38 con assess r1", stands(2, 38, 38, -1), nil, 6},
		{"98 eve ack r1 2", stands(2, 38, 38, -1), []string{"eve"}, 6},
		// The alert 2 has expired, and a third one is issued for the same shear.
		{"99 con assess r1", stands(3, 99, 99, -1), nil, 7},
		{"159 con assess r1", stands(3, 99, 159, -1), nil, 8},
	} {
		log = append(log, entry(c.line))
		s := stripOf(t, n(), log)
		if s.Alert != c.alert || !same(s.Known, c.known) || len(s.Events) != c.events {
			t.Errorf("after %q: %v, want %v", c.line, s, c)
		}
	}
	alerts, e := tower.AlertsOn(n(), log, "r1")
	if want := []api.ShearAlert{{Number: 1, From: 10, To: 34}, {Number: 2, From: 38, To: 98}, {Number: 3, From: 99, To: 219}}; !same(alerts, want) || e != api.OK {
		t.Errorf("%v, error %d, want %v", alerts, e, want)
	}
}

// P10.2
func TestAckErrors(t *testing.T) {
	quiet := []string{"14 con " + scan("l1", "r1", 0, 200, 300), "15 con assess r1", "35 con assess r1"}
	expectRefused(t, n(), l(),
		refused{nil, "14 con ack r9 1", api.ErrMissing},
		refused{nil, "14 con ack l1 7", api.ErrMissing},
		refused{nil, "14 con ack r1 0", api.ErrState},
		refused{nil, "14 con ack r1 2", api.ErrState},
		refused{nil, "14 dan ack r1 0", api.ErrState},
		refused{nil, "14 dan ack r1 2", api.ErrState},
		refused{nil, "71 con ack r1 1", api.ErrState},
		refused{nil, "71 dan ack r1 1", api.ErrState},
		refused{nil, "1000000000000 dan ack r1 1", api.ErrState},
		refused{quiet, "35 dan ack r1 1", api.ErrState},
		refused{quiet, "35 dan ack r1 0", api.ErrState},
		refused{nil, "12 con ack r1 1", api.ErrOrder},
		refused{nil, "14 con ack r1 1", api.ErrDouble},
		refused{nil, "70 con ack r1 1", api.ErrDouble},
		refused{[]string{"14 dan ack r1 1", "15 ida ack r1 1"}, "16 dan ack r1 1", api.ErrDouble},
	)
	expectRefused(t, n(), l()[:3], refused{nil, "10 con ack r1 0", api.ErrState}, refused{nil, "10 con ack r1 1", api.ErrState})
	// Up to its last tick.
	if s := stripOf(t, n(), after("70 dan ack r1 1")); !same(s.Known, []string{"con", "dan"}) {
		t.Errorf("%v", s.Known)
	}
}

// P10.4, examples 1 and 3
func TestStandsOn(t *testing.T) {
	log := append(after("40 con assess r1", "500 con assess r1"), entries("500 con "+scan("l1", "r3", 0, 9, 9), "500 con "+scan("l1", "r3", 1, 0, 0), "510 con assess r3")...)
	for _, c := range []struct {
		log    []api.TowerEntry
		runway string
		at     int
		want   bool
	}{
		{l(), "r1", 0, false}, {l(), "r1", 9, false}, {l(), "r1", 10, true}, {l(), "r1", 13, true}, {l(), "r1", 70, true}, {l(), "r1", 71, false}, {l(), "r1", 1000000000000, false},
		{l()[:3], "r1", 10, false}, {nil, "r1", 0, false}, {nil, "r3", 1000000000000, false}, {l(), "r2", 10, false},
		// By the events up to the tick alone.
		{log, "r1", 9, false}, {log, "r1", 10, true}, {log, "r1", 71, true}, {log, "r1", 100, true}, {log, "r1", 101, false}, {log, "r1", 499, false}, {log, "r1", 500, true}, {log, "r1", 560, true}, {log, "r1", 561, false},
		{log, "r3", 509, false}, {log, "r3", 510, true}, {log, "r3", 530, true}, {log, "r3", 531, false}, {log, "r2", 510, false},
	} {
		got, e := tower.StandsOn(three(), c.log, api.TowerLook{Runway: c.runway, At: c.at})
		if got != c.want || e != api.OK {
			t.Errorf("%s at %d: %v, error %d, want %v", c.runway, c.at, got, e, c.want)
		}
	}
	for _, at := range beyond(0, 1000000000000) {
		got, e := tower.StandsOn(n(), l(), api.TowerLook{Runway: "r1", At: at})
		expectOnly(t, "StandsOn", got, e, api.ErrRange)
		got, e = tower.StandsOn(n(), l(), api.TowerLook{Runway: "r2", At: at})
		expectOnly(t, "StandsOn", got, e, api.ErrMissing)
	}
}

// P10.4, example 1
func TestAlertsOn(t *testing.T) {
	for _, c := range []struct {
		log    []api.TowerEntry
		runway string
		want   []api.ShearAlert
	}{
		{nil, "r1", nil}, {l()[:3], "r1", nil}, {l(), "r1", []api.ShearAlert{{Number: 1, From: 10, To: 70}}}, {l(), "r2", nil},
		{busy(), "r1", []api.ShearAlert{{Number: 1, From: 10, To: 70}}}, {busy(), "r2", []api.ShearAlert{{Number: 1, From: 10, To: 20}}}, {busy(), "r3", nil},
		{after("70 con assess r1"), "r1", []api.ShearAlert{{Number: 1, From: 10, To: 130}}},
		{after("71 con assess r1"), "r1", []api.ShearAlert{{Number: 1, From: 10, To: 70}, {Number: 2, From: 71, To: 131}}},
		{after("1000000000000 con assess r1"), "r1", []api.ShearAlert{{Number: 1, From: 10, To: 70}, {Number: 2, From: 1000000000000, To: 1000000000060}}},
	} {
		got, e := tower.AlertsOn(three(), c.log, c.runway)
		if !same(got, c.want) || e != api.OK {
			t.Errorf("%v, %s: %v, error %d, want %v", c.log, c.runway, got, e, c.want)
		}
	}
}

// P10.4, example 7
func TestBlindOn(t *testing.T) {
	for _, c := range []struct {
		log  []api.TowerEntry
		gap  int
		want []api.Range
	}{
		{l(), 400, []api.Range{ends(401, 599), ends(1401, 50000)}},
		{l(), 500, []api.Range{ends(1501, 50000)}},
		{l(), 49000, nil}, {l(), 48999, []api.Range{ends(50000, 50000)}}, {l(), 50000, nil},
		{l(), 0, []api.Range{ends(1, 999), ends(1001, 50000)}},
		{nil, 0, []api.Range{ends(0, 50000)}}, {nil, 50000, []api.Range{ends(0, 50000)}},
		{after("14 con " + scan("l1", "r1", 50000, 0, 0)), 400, []api.Range{ends(401, 599), ends(1401, 49599)}},
	} {
		got, e := tower.BlindOn(n(), c.log, "r1", c.gap)
		if !same(got, c.want) || e != api.OK {
			t.Errorf("%d: %v, error %d, want %v", c.gap, got, e, c.want)
		}
	}
	for _, gap := range beyond(0, 50000) {
		got, e := tower.BlindOn(n(), l(), "r1", gap)
		expectOnly(t, "BlindOn", got, e, api.ErrRange)
		got, e = tower.BlindOn(n(), l(), "r2", gap)
		expectOnly(t, "BlindOn", got, e, api.ErrMissing)
	}
}
