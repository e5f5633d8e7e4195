package tower_test

import (
	"slices"
	"strconv"
	"strings"
	"testing"

	"glidepath/api"
	"glidepath/tower"
)

// P10.2, P10.3
func TestLidars(t *testing.T) {
	var log []api.TowerEntry
	for _, c := range []struct {
		line string
		want []api.TowerLidar
	}{
		{"1 eve lidar l2", []api.TowerLidar{{Name: "l2", Works: true}}},
		{"1 eve lidar a", []api.TowerLidar{{Name: "l2", Works: true}, {Name: "a", Works: true}}},
		{"2 eve stop l2", []api.TowerLidar{{Name: "l2"}, {Name: "a", Works: true}}},
		{"2 eve lidar L2", []api.TowerLidar{{Name: "l2"}, {Name: "a", Works: true}, {Name: "L2", Works: true}}},
		{"2 eve stop a", []api.TowerLidar{{Name: "l2"}, {Name: "a"}, {Name: "L2", Works: true}}},
		{"2 ida start l2", []api.TowerLidar{{Name: "l2", Works: true}, {Name: "a"}, {Name: "L2", Works: true}}},
		{"3 eve lidar abcdefghijkl", []api.TowerLidar{{Name: "l2", Works: true}, {Name: "a"}, {Name: "L2", Works: true}, {Name: "abcdefghijkl", Works: true}}},
		{"3 eve start a", []api.TowerLidar{{Name: "l2", Works: true}, {Name: "a", Works: true}, {Name: "L2", Works: true}, {Name: "abcdefghijkl", Works: true}}},
	} {
		log = append(log, entry(c.line))
		want := stateOf(t, n(), nil)
		want.Lidars = c.want
		if got := stateOf(t, n(), log); !alike(got, want) {
			t.Errorf("after %q: %v, want %v", c.line, got, want)
		}
	}
	for _, name := range goodNames() {
		if s := stateOf(t, n(), entries("1 eve lidar "+name)); !same(s.Lidars, []api.TowerLidar{{Name: name, Works: true}}) {
			t.Errorf("%q: %v", name, s.Lidars)
		}
	}
}

// P10.2
func TestLidarErrors(t *testing.T) {
	four := []string{"14 eve lidar l2", "14 eve lidar l3", "14 eve lidar l4"}
	stopped := []string{"14 eve stop l1"}
	for _, name := range badNames() {
		if name == "" || strings.ContainsAny(name, " \n\x00\xffä") {
			continue
		}
		expectRefused(t, n(), l(), refused{nil, "15 eve lidar " + name, api.ErrName}, refused{four, "15 eve lidar " + name, api.ErrName})
	}
	expectRefused(t, n(), l(),
		refused{nil, "15 eve lidar l1", api.ErrExists},
		refused{stopped, "15 eve lidar l1", api.ErrExists},
		refused{four, "15 eve lidar l4", api.ErrExists},
		refused{four, "15 eve lidar l5", api.ErrFull},
		refused{append(slices.Clone(four), stopped...), "15 eve lidar l5", api.ErrFull},
		refused{nil, "15 eve stop l2", api.ErrMissing},
		refused{nil, "15 eve stop r1", api.ErrMissing},
		refused{stopped, "15 eve stop l1", api.ErrState},
		refused{nil, "15 eve start l2", api.ErrMissing},
		refused{nil, "15 eve start l1", api.ErrState},
		refused{[]string{"14 eve stop l1", "14 eve start l1"}, "15 eve start l1", api.ErrState},
		refused{[]string{"14 eve lidar l2", "14 eve stop l2"}, "15 eve start l1", api.ErrState},
		refused{[]string{"14 eve lidar l2", "14 eve stop l2"}, "15 eve stop l2", api.ErrState},
	)
}

func reading(x, y, z, lo, hi int) api.WindReading {
	return api.WindReading{Direction: [3]int{x, y, z}, Value: ends(lo, hi)}
}

// P10.2, P10.3, example 1
func TestScans(t *testing.T) {
	want := stateOf(t, n(), l()[:1])
	first := api.TowerScan{Lidar: "l1", Runway: "r1", At: 5, Position: 0, Readings: []api.WindReading{reading(1, 0, 0, 900, 1000), reading(0, 1, 0, 0, 0), reading(0, 0, 1, 0, 0)}, Headwind: ends(900, 1000)}
	second := api.TowerScan{Lidar: "l1", Runway: "r1", At: 6, Position: 1000, Readings: []api.WindReading{reading(1, 0, 0, 200, 300), reading(0, 1, 0, 0, 0), reading(0, 0, 1, 0, 0)}, Headwind: ends(200, 300)}
	want.Scans, want.Strips[0].Profile = []api.TowerScan{first}, []api.ShearGate{gate(0, 900, 1000)}
	if got := stateOf(t, n(), l()[:2]); !alike(got, want) {
		t.Errorf("%v, want %v", got, want)
	}
	want.Scans, want.Strips[0].Profile = []api.TowerScan{first, second}, []api.ShearGate{gate(0, 900, 1000), gate(1000, 200, 300)}
	if got := stateOf(t, n(), l()[:3]); !alike(got, want) {
		t.Errorf("%v, want %v", got, want)
	}
}

// P10.2, P10.3: the positions ascend, and a second scan at a position replaces the headwind there.
func TestPositions(t *testing.T) {
	log := entries("1 eve lidar l1", "1 eve lidar l2")
	for _, c := range []struct {
		text string
		want []api.ShearGate
	}{
		{scan("l1", "r1", 50000, -10000, 10000), []api.ShearGate{gate(50000, -10000, 10000)}},
		{scan("l2", "r1", 7, 5, 6), []api.ShearGate{gate(7, 5, 6), gate(50000, -10000, 10000)}},
		{scan("l1", "r1", 40, 1, 2), []api.ShearGate{gate(7, 5, 6), gate(40, 1, 2), gate(50000, -10000, 10000)}},
		{scan("l1", "r1", 0, 3, 3), []api.ShearGate{gate(0, 3, 3), gate(7, 5, 6), gate(40, 1, 2), gate(50000, -10000, 10000)}},
		{scan("l2", "r1", 40, -1, 0), []api.ShearGate{gate(0, 3, 3), gate(7, 5, 6), gate(40, -1, 0), gate(50000, -10000, 10000)}},
		{scan("l1", "r1", 50000, 4, 5), []api.ShearGate{gate(0, 3, 3), gate(7, 5, 6), gate(40, -1, 0), gate(50000, 4, 5)}},
		{scan("l1", "r2", 0, 4, 5), []api.ShearGate{gate(0, 3, 3), gate(7, 5, 6), gate(40, -1, 0), gate(50000, 4, 5)}},
	} {
		log = append(log, api.TowerEntry{At: 2, By: "con", Text: c.text})
		s := stateOf(t, three(), log)
		if !same(s.Strips[0].Profile, c.want) || len(s.Scans) != len(log)-2 {
			t.Errorf("after %q: %v, want %v", c.text, s, c.want)
		}
	}
}

// P10.2: the headwind is that of the runway's direction, rounded outwards.
func TestHeadwinds(t *testing.T) {
	for _, c := range []struct {
		runway, readings string
		want             api.Range
	}{
		{"r2", "1 0 0 7 9;0 1 0 -50 -40;0 0 1 0 0", ends(80, 100)},
		{"r2", "1 0 0 7 9;0 1 0 1 2;0 0 1 -3 4", ends(-7, 2)},
		{"r1", "2 0 0 1 4;0 1 0 1 2;0 0 1 -3 4", ends(0, 2)},
		{"r1", "2 0 0 -5 -1;0 1 0 1 2;0 0 1 -3 4", ends(-3, 0)},
		{"r2", "1 0 0 7 9;0 4 0 1 1;0 0 1 1 1", ends(0, 1)},
		// Of the greatest size that is permitted.
		{"r1", "1 1 0 10000 10000;0 1 0 0 9999;0 0 1 0 0", ends(1, 10000)},
		{"r2", "0 1 0 -5000 5000;1 0 0 0 0;0 0 1 0 0", ends(-10000, 10000)},
	} {
		log := entries("1 eve lidar l1", "2 con scan l1 "+c.runway+" 40 "+c.readings)
		s := stateOf(t, three(), log)
		i := int(c.runway[1] - '1')
		if s.Scans[0].Headwind != c.want || s.Scans[0].Runway != c.runway || s.Strips[i].Profile[0] != gate(40, c.want.Lo, c.want.Hi) {
			t.Errorf("%v: %v, want %v", c.readings, s, c.want)
		}
	}
}

// P10.2
func TestScanErrors(t *testing.T) {
	stopped := []string{"14 eve stop l1"}
	valid := readings(0, 0)
	checks := []refused{
		{nil, "15 con scan l2 r9 50001 x", api.ErrMissing},
		{stopped, "15 con scan l2 r9 50001 x", api.ErrMissing},
		{nil, "15 con scan r1 r1 0 " + valid, api.ErrMissing},
		{stopped, "15 con scan l1 r9 50001 x", api.ErrState},
		{stopped, "15 con scan l1 r1 0 " + valid, api.ErrState},
		{nil, "15 con scan l1 r9 50001 x", api.ErrMissing},
		{nil, "15 con scan l1 l1 0 " + valid, api.ErrMissing},
		{nil, "15 con scan l1 r1 50001 x", api.ErrRange},
		{nil, "15 con scan l1 r1 50001 " + valid, api.ErrRange},
		{nil, "15 con scan l1 r1 9999999 " + valid, api.ErrRange},
		{nil, "15 con scan l1 r1 50000 ", api.ErrSyntax},
		{nil, "15 con scan l1 r1 50000 x", api.ErrSyntax},
		{nil, "15 con scan l1 r1 0  " + valid, api.ErrSyntax},
		{nil, "15 con scan l1 r1 0 " + valid + " ", api.ErrSyntax},
		{nil, "15 con scan l1 r1 0 " + valid + ";", api.ErrSyntax},
		{nil, "15 con scan l1 r1 0 " + strings.Repeat(valid+";", 2) + "1 0 0 0 0", api.ErrLarge},
		{nil, "15 con scan l1 r1 0 " + valid + ";0 0 0 0 0", api.ErrZero},
		{nil, "15 con scan l1 r1 0 " + valid + ";10 0 0 0 0", api.ErrRange},
		{nil, "15 con scan l1 r1 0 " + valid + ";1 0 0 0 10001", api.ErrRange},
		{nil, "15 con scan l1 r1 0 1 0 0 1 0", api.ErrOrder},
		{nil, "15 con scan l1 r1 0 1 0 0 5 5", api.ErrOpen},
		{nil, "15 con scan l1 r1 0 1 0 0 5 5;0 1 0 0 0;1 1 0 0 0", api.ErrOpen},
		{nil, "15 con scan l1 r1 0 1 0 0 5 5;0 1 0 0 0;0 0 1 0 0;1 0 0 6 6", api.ErrNone},
		{nil, "15 con scan l1 r1 0 1 1 0 10000 10000;0 1 0 -1 0;0 0 1 0 0", api.ErrLarge},
		{nil, "15 con scan l1 r1 0 1 1 0 -10000 -10000;0 1 0 0 1;0 0 1 0 0", api.ErrLarge},
		{nil, "15 con scan l1 r1 0 1 1 0 10000 10000;0 1 0 -10000 -1;0 0 1 0 0", api.ErrLarge},
	}
	expectRefused(t, n(), l(), checks...)
	// The same when no scan fits any more.
	full := l()
	for i := range 22 {
		full = append(full, api.TowerEntry{At: 14, By: "con", Text: scan("l1", "r1", 1000*(i%2), i, i)})
	}
	expectRefused(t, n(), full, checks...)
	expectRefused(t, n(), full, refused{nil, "15 con " + scan("l1", "r1", 0, 0, 0), api.ErrFull}, refused{nil, "15 con " + scan("l1", "r1", 5, 0, 0), api.ErrFull})
	expectRefused(t, n(), full[:len(full)-1], refused{[]string{"15 con " + scan("l1", "r1", 5, 0, 0)}, "15 con " + scan("l1", "r1", 5, 0, 0), api.ErrFull})
	expectRefused(t, three(), full, refused{nil, "15 con " + scan("l1", "r2", 0, 0, 0), api.ErrFull})
}

// P10.2: a strip has so many gates, and another one as many.
func TestFullStrip(t *testing.T) {
	log := entries("1 eve lidar l1")
	for i := range 20 {
		log = append(log, api.TowerEntry{At: 2, By: "con", Text: scan("l1", "r1", 10+10*((7*i)%20), i, i)})
	}
	for _, position := range []int{0, 11, 209, 50000} {
		expectRefused(t, three(), log, refused{nil, "3 con " + scan("l1", "r1", position, 0, 0), api.ErrFull}, refused{nil, "3 con " + scan("l1", "r1", position, 0, 10001), api.ErrRange})
		stateOf(t, three(), append(slices.Clone(log), entry("3 con "+scan("l1", "r2", position, 0, 0))))
	}
	for i := range 20 {
		s := stateOf(t, three(), append(slices.Clone(log), entry("3 con "+scan("l1", "r1", 10+10*i, 99, 99))))
		if len(s.Strips[0].Profile) != 20 || s.Strips[0].Profile[i] != gate(10+10*i, 99, 99) || len(s.Scans) != 21 {
			t.Errorf("%d: %v", i, s)
		}
	}
}

// A lidar that was stopped leaves its scans in force.
func TestStoppedLidar(t *testing.T) {
	before, after := stateOf(t, n(), l()), stateOf(t, n(), after("14 eve stop l1"))
	if before.Lidars[0].Works = false; !alike(before, after) {
		t.Errorf("%v, want %v", after, before)
	}
	if answer, e := tower.Answer(n(), append(l(), entry("14 eve stop l1")), "profile r1"); answer != "0 900 1000;1000 200 300" || e != api.OK {
		t.Errorf("%q, error %d", answer, e)
	}
}

// P10.3: scans are in their order, whatever their lidars and runways are.
func TestScanOrder(t *testing.T) {
	log := entries("1 eve lidar l1", "1 eve lidar l2")
	var want []string
	for i := range 24 {
		lidar, runway := "l"+strconv.Itoa(1+i%2), "r"+strconv.Itoa(1+(i/2)%3)
		log = append(log, api.TowerEntry{At: 2 + i, By: "con", Text: scan(lidar, runway, 7*(25-i), i, 2*i)})
		want = append(want, lidar+" "+runway+" "+strconv.Itoa(2+i)+" "+strconv.Itoa(7*(25-i)))
	}
	for i, x := range stateOf(t, three(), log).Scans {
		if got := x.Lidar + " " + x.Runway + " " + strconv.Itoa(x.At) + " " + strconv.Itoa(x.Position); got != want[i] || x.Readings[0].Value != ends(i, 2*i) {
			t.Errorf("%v, want %s", x, want[i])
		}
	}
}
