package tower_test

import (
	"testing"

	"glidepath/api"
	"glidepath/tower"
)

func newDesk(t *testing.T, n api.TowerNet, l []api.TowerEntry) *tower.Desk {
	t.Helper()
	d, e := tower.New(n)
	if d == nil || e != api.OK {
		t.Fatalf("%v, error %d", d, e)
	}
	for _, x := range l {
		expect(t, "Enter "+x.Text, d.Enter(x.At, x.By, x.Text), api.OK)
	}
	return d
}

func expectLog(t *testing.T, d *tower.Desk, n api.TowerNet, want []api.TowerEntry) {
	t.Helper()
	if got := d.Log(); !same(got, want) {
		t.Errorf("%v, want %v", got, want)
	}
	if got := d.Journal(); got != journal(t, n, want) {
		t.Errorf("%q, want %q", got, journal(t, n, want))
	}
	for _, question := range []string{"count", "lidars", "profile r1", "alert r1", "slots r1", "released aa1", "alert r9", "x"} {
		got, e := d.Answer(question)
		again, wrong := tower.Answer(n, want, question)
		if got != again || e != wrong {
			t.Errorf("%q: %q, error %d, want %q, error %d", question, got, e, again, wrong)
		}
	}
}

// P10.8, P10.9
func TestDesk(t *testing.T) {
	for _, c := range []struct {
		net api.TowerNet
		log []api.TowerEntry
	}{{n(), l()}, {three(), busy()}, {n(), full()}} {
		d := newDesk(t, c.net, nil)
		expectLog(t, d, c.net, nil)
		for i, x := range c.log {
			expect(t, "Enter "+x.Text, d.Enter(x.At, x.By, x.Text), api.OK)
			expectLog(t, d, c.net, c.log[:i+1])
		}
		for i := len(c.log) - 1; i >= 0; i-- {
			expect(t, "Undo", d.Undo(), api.OK)
			expectLog(t, d, c.net, c.log[:i])
		}
		expect(t, "Undo of nothing", d.Undo(), api.ErrNone)
		expectLog(t, d, c.net, nil)
	}
}

// P10.8: with an error nothing changes.
func TestRefusedOnDesk(t *testing.T) {
	d := newDesk(t, n(), l())
	for _, c := range badLogs() {
		if len(c.value) != 8 {
			continue
		}
		x := c.value[7]
		expect(t, "Enter", d.Enter(x.At, x.By, x.Text), c.want)
	}
	for line, want := range map[string]api.Errno{
		"14 con release aa1 100": api.ErrDouble, "14 con close r1 x": api.ErrAllowed, "14 con " + scan("l1", "r1", 0, 0, 10001): api.ErrRange, "13 con ack r1 1": api.ErrDouble, "12 con note x": api.ErrOrder, "14 con around aa1 0": api.ErrRange, "14 con arrival r1 aa1 0 0 0 0": api.ErrExists, "14 ida open r1": api.ErrState,
	} {
		x := entry(line)
		expect(t, line, d.Enter(x.At, x.By, x.Text), want)
	}
	expectLog(t, d, n(), l())
	most := newDesk(t, n(), full())
	expect(t, "Enter into a full log", most.Enter(7, "gus", "note x"), api.ErrLarge)
	expect(t, "Enter into a full log", most.Enter(-1, "nobody", "x"), api.ErrLarge)
	expectLog(t, most, n(), full())
	expect(t, "Undo", most.Undo(), api.OK)
	expect(t, "Enter", most.Enter(8, "gus", "note x"), api.OK)
	expectLog(t, most, n(), append(full()[:59], entry("8 gus note x")))
}

// P10.8
func TestNew(t *testing.T) {
	for _, c := range badNets() {
		d, e := tower.New(c.value)
		expectOnly(t, "New", d, e, c.want)
	}
	a, b := newDesk(t, n(), l()), newDesk(t, n(), nil)
	expectLog(t, a, n(), l())
	expectLog(t, b, n(), nil)
}

// P10.8: nil desks, and those that New has not made.
func TestNilDesk(t *testing.T) {
	var d *tower.Desk
	expect(t, "Enter", d.Enter(1, "eve", "lidar l1"), api.ErrNil)
	expect(t, "Enter", d.Enter(-1, "nobody", "\n"), api.ErrNil)
	expect(t, "Undo", d.Undo(), api.ErrNil)
	for _, question := range []string{"count", "x"} {
		s, e := d.Answer(question)
		expectOnly(t, "Answer", s, e, api.ErrNil)
	}
	if l, s := d.Log(), d.Journal(); len(l) > 0 || s != "" {
		t.Errorf("%v and %q", l, s)
	}
	zero := &tower.Desk{}
	expect(t, "Enter", zero.Enter(1, "eve", "lidar l1"), api.ErrShape)
	expect(t, "Undo", zero.Undo(), api.ErrNone)
	s, e := zero.Answer("count")
	expectOnly(t, "Answer", s, e, api.ErrShape)
	if l, s := zero.Log(), zero.Journal(); len(l) > 0 || s != "" {
		t.Errorf("%v and %q", l, s)
	}
}

// R3: a log that was returned is not that of the desk.
func TestLogIsNew(t *testing.T) {
	d := newDesk(t, n(), l())
	before := d.Log()
	expect(t, "Undo", d.Undo(), api.OK)
	expect(t, "Enter", d.Enter(13, "gus", "note x"), api.OK)
	if !same(before, l()) {
		t.Errorf("%v", before)
	}
	spoil(before)
	spoil(d.Log())
	expectLog(t, d, n(), append(l()[:6], entry("13 gus note x")))
}
