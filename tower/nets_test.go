package tower_test

import (
	"reflect"
	"testing"

	"glidepath/api"
	"glidepath/tower"
)

// P10.1
func TestCheckNet(t *testing.T) {
	most := n()
	most.People, most.Runways = nil, nil
	for i, name := range goodNames()[1:] {
		most.People = append(most.People, person(name, i%4))
	}
	for i, name := range goodNames()[6:] {
		most.Runways = append(most.Runways, runway(name, [][3]int{{9, -9, 9}, {0, 0, 1}, {-9, 9, -9}}[i], []api.ShearRule{rule(1, 0, 0, 1), rule(20000, 20000, 100000, 100000), rule(1, 1, 5, 5)}[i]))
	}
	least := api.TowerNet{
		People:  []api.TowerPerson{person("a", 0)},
		Runways: []api.TowerRunway{runway("a", [3]int{0, -1, 0}, rule(1, 0, 0, 1))},
		Rule:    api.SpacingRule{Seconds: [][]int{{0}}, Free: [][]int{{0}}},
		Length:  1,
	}
	long := three()
	long.Length = 50000
	for i, net := range []api.TowerNet{n(), three(), most, least, long} {
		if i, e := tower.CheckNet(net); i != 0 || e != api.OK {
			t.Errorf("%v: %d, error %d", net, i, e)
		}
		if l, e := tower.Appended(net, nil, api.TowerEntry{By: net.People[0].Name, Text: "note x"}); len(l) != 1 || e != api.OK {
			t.Errorf("%d: %v, error %d", i, l, e)
		}
	}
}

// P10.1
func TestCheckNetErrors(t *testing.T) {
	for _, c := range badNets() {
		if i, e := tower.CheckNet(c.value); i != c.index || e != c.want {
			t.Errorf("%.200v: %d, error %d, want %d, error %d", c.value, i, e, c.index, c.want)
		}
	}
}

// P10.2 to P10.8: the errors of the net come first, whatever is wrong with what follows it.
func TestNetErrors(t *testing.T) {
	bads := [][]api.TowerEntry{nil, l(), entries("1 nobody note x"), make([]api.TowerEntry, 61)}
	for i, c := range badNets() {
		log := bads[i%len(bads)]
		runway := []string{"r1", "r9", ""}[i%3]
		number := []int{0, -1}[i%2]
		i, e := tower.CheckLog(c.value, log)
		expectOnly(t, "CheckLog", i, e, c.want)
		for what, call := range map[string]func() (any, api.Errno){
			"Appended": func() (any, api.Errno) { return two(tower.Appended(c.value, log, entry("1 nobody x"))) },
			"StateOf":  func() (any, api.Errno) { return two(tower.StateOf(c.value, log)) },
			"StateAt":  func() (any, api.Errno) { return two(tower.StateAt(c.value, log, number)) },
			"StripOf":  func() (any, api.Errno) { return two(tower.StripOf(c.value, log, runway)) },
			"AlertsOn": func() (any, api.Errno) { return two(tower.AlertsOn(c.value, log, runway)) },
			"StandsOn": func() (any, api.Errno) {
				return two(tower.StandsOn(c.value, log, api.TowerLook{Runway: runway, At: number}))
			},
			"BlindOn": func() (any, api.Errno) { return two(tower.BlindOn(c.value, log, runway, number)) },
			"Journal": func() (any, api.Errno) { return two(tower.Journal(c.value, log)) },
			"Answer":  func() (any, api.Errno) { return two(tower.Answer(c.value, log, []string{"count", "x"}[i%2])) },
			"New":     func() (any, api.Errno) { return two(tower.New(c.value)) },
		} {
			result, e := call()
			expectOnly(t, what, result, e, c.want)
		}
		plan, cost, e := tower.PlanFor(c.value, log, runway)
		expectOnly(t, "PlanFor", plan, e, c.want)
		recovered, length, again := tower.Recovered(c.value, []string{"", "1 con note x 5\n", string(make([]byte, 60001))}[i%3])
		expectOnly(t, "Recovered", recovered, again, c.want)
		merged, refused, last := tower.Merged(c.value, log, bads[(i+1)%len(bads)])
		expectOnly(t, "Merged", merged, last, c.want)
		if cost != 0 || length != 0 || len(refused) != 0 {
			t.Errorf("%d, %d and %v together with an error", cost, length, refused)
		}
	}
}

func two[T any](result T, e api.Errno) (any, api.Errno) { return result, e }

// R3: no argument is changed, and a desk keeps none.
func TestNetIsKept(t *testing.T) {
	net, log := three(), busy()
	a, _ := tower.Appended(net, log, entry("500 gus note x"))
	tower.Recovered(net, journal(t, net, log))
	tower.Merged(net, log, a)
	if !reflect.DeepEqual(net, three()) || !reflect.DeepEqual(log, busy()) {
		t.Error("an argument is changed")
	}
	d, _ := tower.New(net)
	net.People[1].Name, net.Runways[0].Name, net.Runways[0].Direction = "x", "x", [3]int{}
	net.Rule.Seconds[0][0], net.Rule.Free[0][0] = -1, -1
	net.Rule.Seconds[1], net.Rule.Free[1] = nil, nil
	for _, x := range busy() {
		expect(t, "Enter "+x.Text, d.Enter(x.At, x.By, x.Text), api.OK)
	}
}

// P10.2: what is returned shares no memory with the arguments.
func TestAppendedIsNew(t *testing.T) {
	log := append(make([]api.TowerEntry, 0, 20), l()...)
	a, _ := tower.Appended(n(), log, entry("20 gus note a"))
	b, _ := tower.Appended(n(), log, entry("20 gus note b"))
	a[0].Text = "x"
	if log[0] != l()[0] || b[0] != l()[0] || a[7].Text != "note a" || b[7].Text != "note b" || len(log[:8][7].Text) != 0 {
		t.Errorf("%v, %v and %v share memory", log, a, b)
	}
}
