package tower_test

import (
	"maps"
	"slices"
	"strconv"
	"strings"
	"testing"

	"glidepath/api"
	"glidepath/shear"
	"glidepath/spacing"
	"glidepath/tower"
	"glidepath/wind"
)

// line is an entry that is possible often, after a state at a tick.
func (d *draws) line(s api.TowerState, tick int) api.TowerEntry {
	tick += pick(d, 0, 0, 1, 2, 5, d.from(0, 30), d.from(0, 90))
	by := pick(d, "con", "dan", "eve", "ida", "ida", "ida", "con", "gus")
	return api.TowerEntry{At: tick, By: by, Text: d.text(s)}
}

func (d *draws) text(s api.TowerState) string {
	i := d.from(0, 2)
	lidar, runway, strip := pick(d, "l1", "l2", "l3"), "r"+strconv.Itoa(i+1), s.Strips[i]
	switch d.from(0, 19) {
	case 0:
		return "note " + pick(d, "", " ", "x", "x y")
	case 1:
		return "lidar " + lidar
	case 2:
		return pick(d, "stop ", "start ") + lidar
	case 3, 4, 5:
		lo := d.from(-5, 5) * 100
		return scan(lidar, runway, d.from(0, 4)*300, lo, lo+d.from(0, 200))
	case 6, 7, 8:
		return "assess " + runway
	case 9, 10, 11:
		return "ack " + runway + " " + strconv.Itoa(max(0, strip.Alert.Number-d.from(0, 7)/7))
	case 12:
		return pick(d, "close "+runway+" snow", "open "+runway, "open "+runway)
	}
	return d.approach(runway, strip)
}

// approach is a text about arrivals.
func (d *draws) approach(runway string, s api.TowerStrip) string {
	name, soon := string(rune('a'+d.from(0, 9))), 0
	if len(s.Arrivals) > 0 && d.from(0, 5) > 0 {
		x := pick(d, s.Arrivals...)
		name, soon = x.Name, x.Earliest
	}
	for _, x := range s.Slots {
		soon = max(soon, x.Time+30)
	}
	switch d.from(0, 6) {
	case 0, 1:
		earliest := d.from(0, 300)
		return "arrival " + runway + " " + spacing.FormatArrivals([]api.SpacingArrival{arrival(name, d.from(0, 1), earliest, earliest+d.from(0, 900), d.from(0, 3))})
	case 2:
		return "free " + name
	case 3:
		return "around " + name + " " + strconv.Itoa(d.from(0, 400))
	}
	return "release " + name + " " + strconv.Itoa(soon+d.from(0, 60))
}

// log has few entries that are refused, because most of those are left out.
func (d *draws) log(n api.TowerNet, tries int) []api.TowerEntry {
	l := entries("0 eve lidar l1", "0 con "+scan("l1", "r1", 300, 500, 600), "0 con "+scan("l1", "r1", 900, -200, 0), "0 con arrival r1 a 0 100 900 1", "0 con arrival r2 b 1 100 900 1", "0 dan arrival r1 c 1 0 2000 5")
	for range tries {
		s, _ := tower.StateOf(n, l)
		if longer, e := tower.Appended(n, l, d.line(s, l[len(l)-1].At)); e == api.OK {
			l = longer
		}
	}
	return l
}

// told are the entries of a log whose texts begin with a word, and the words after it.
func told(l []api.TowerEntry, word string) (found []api.TowerEntry, words [][]string) {
	for _, x := range l {
		if rest, ok := strings.CutPrefix(x.Text, word+" "); ok {
			found, words = append(found, x), append(words, strings.SplitN(rest, " ", 4))
		}
	}
	return found, words
}

// last is the index of the last entry of a log with one of the texts, -1 if there is none.
func last(l []api.TowerEntry, texts ...string) int {
	for i := len(l) - 1; i >= 0; i-- {
		for _, text := range texts {
			if l[i].Text == text || strings.HasPrefix(l[i].Text, text+" ") {
				return i
			}
		}
	}
	return -1
}

func number(s string) int {
	x, _ := strconv.Atoi(s)
	return x
}

// expected finds every part of the state after a log by itself, from the whole log.
func expected(n api.TowerNet, l []api.TowerEntry) api.TowerState {
	var s api.TowerState
	_, lidars := told(l, "lidar")
	for _, x := range lidars {
		s.Lidars = append(s.Lidars, api.TowerLidar{Name: x[0], Works: last(l, "lidar "+x[0], "start "+x[0]) > last(l, "stop "+x[0])})
	}
	scans, words := told(l, "scan")
	for i, x := range scans {
		r, _ := wind.ParseReadings(words[i][3])
		k := slices.IndexFunc(n.Runways, func(r api.TowerRunway) bool { return r.Name == words[i][1] })
		h, _ := wind.HeadwindIn(r, n.Runways[k].Direction)
		s.Scans = append(s.Scans, api.TowerScan{Lidar: words[i][0], Runway: words[i][1], At: x.At, Position: number(words[i][2]), Readings: r, Headwind: h})
	}
	for _, r := range n.Runways {
		s.Strips = append(s.Strips, expectedStrip(n, l, s.Scans, r))
	}
	releases, words := told(l, "release")
	for i, x := range releases {
		s.Releases = append(s.Releases, api.TowerRelease{Arrival: words[i][0], By: x.By, Time: number(words[i][1])})
	}
	return s
}

func expectedStrip(n api.TowerNet, l []api.TowerEntry, scans []api.TowerScan, r api.TowerRunway) api.TowerStrip {
	s := api.TowerStrip{Profile: expectedProfile(scans, r.Name), Closed: last(l, "close "+r.Name) > last(l, "open "+r.Name)}
	for i, x := range l {
		if x.Text == "assess "+r.Name {
			before, _ := told(l[:i], "scan")
			loss, _ := shear.StrongestLoss(expectedProfile(scans[:len(before)], r.Name), n.Length)
			s.Events = append(s.Events, api.ShearEvent{At: x.At, Loss: loss.Change})
		}
	}
	s.Alert = rests(0, -1)
	if count := len(s.Events); count > 0 {
		s.Alert, _ = shear.StateAt(r.Alert, s.Events, s.Events[count-1].At)
	}
	acks, words := told(l, "ack")
	for i, x := range acks {
		if words[i][0] == r.Name && number(words[i][1]) == s.Alert.Number {
			s.Known = append(s.Known, x.By)
		}
	}
	_, arrivals := told(l, "arrival")
	for _, x := range arrivals {
		if x[0] == r.Name {
			a, _ := spacing.ParseArrivals(strings.Join(x[1:], " "))
			s.Arrivals = append(s.Arrivals, a[0])
		}
	}
	expectSlots(l, &s)
	return s
}

func expectedProfile(scans []api.TowerScan, runway string) []api.ShearGate {
	last := map[int]api.Range{}
	for _, x := range scans {
		if x.Runway == runway {
			last[x.Position] = x.Headwind
		}
	}
	var l []api.ShearGate
	for _, position := range slices.Sorted(maps.Keys(last)) {
		l = append(l, api.ShearGate{At: position, Wind: last[position]})
	}
	return l
}

func expectSlots(l []api.TowerEntry, s *api.TowerStrip) {
	for i := range s.Arrivals {
		a := &s.Arrivals[i]
		time := 0
		for _, x := range l {
			words := strings.Split(x.Text, " ")
			if words[0] == "release" && words[1] == a.Name {
				time = number(words[2])
			}
			if words[0] == "around" && words[1] == a.Name {
				delay := time + number(words[2]) - a.Earliest
				a.Earliest, a.Latest = a.Earliest+delay, a.Latest+delay
			}
		}
		if last(l, "free "+a.Name) > last(l, "around "+a.Name) {
			s.Free = append(s.Free, i)
		}
	}
	for i, x := range l {
		words := strings.Split(x.Text, " ")
		k := slices.IndexFunc(s.Arrivals, func(a api.SpacingArrival) bool { return words[0] == "release" && a.Name == words[1] })
		if k >= 0 && last(l, "around "+words[1]) < i {
			s.Slots = append(s.Slots, slot(k, number(words[2])))
		}
	}
}

// someLogs calls for logs that look arbitrary, and counts their texts by their first words.
func someLogs(t *testing.T, seed uint64, count int, call func(d *draws, l []api.TowerEntry)) {
	t.Helper()
	d := &draws{seed}
	counts := map[string]int{}
	for range count {
		l := d.log(three(), 120)
		call(d, l[:min(len(l), 60)])
		for _, x := range l {
			word, _, _ := strings.Cut(x.Text, " ")
			counts[word]++
		}
	}
	if len(counts) != 13 {
		t.Errorf("texts are missing: %v", counts)
	}
}

// P10.2, P10.3, P10.9
func TestEveryState(t *testing.T) {
	someLogs(t, 1, 60, func(d *draws, l []api.TowerEntry) {
		for i := range len(l) + 1 {
			if got, want := stateOf(t, three(), l[:i]), expected(three(), l[:i]); !alike(got, want) {
				t.Fatalf("%v: %v, want %v", l[:i], got, want)
			}
		}
		tick := l[len(l)-1].At
		if got, e := tower.StateAt(three(), l, tick); !alike(got, stateOf(t, three(), l)) || e != api.OK {
			t.Errorf("%v: %v, error %d", l, got, e)
		}
	})
}

// P10.9
func TestBeginnings(t *testing.T) {
	someLogs(t, 2, 50, func(d *draws, l []api.TowerEntry) {
		desk := newDesk(t, three(), nil)
		var log []api.TowerEntry
		for i, x := range l {
			longer, e := tower.Appended(three(), log, x)
			if log = longer; !same(log, l[:i+1]) || e != api.OK {
				t.Fatalf("%v: %v, error %d", l[:i+1], log, e)
			}
			expect(t, "Enter", desk.Enter(x.At, x.By, x.Text), api.OK)
			if d.from(0, 2) == 0 {
				// A further one, which is taken back.
				expect(t, "Enter", desk.Enter(x.At, "gus", "note x"), errorOfFull(i+1))
				if i+1 < 60 {
					expect(t, "Undo", desk.Undo(), api.OK)
				}
			}
			if !same(desk.Log(), log) {
				t.Fatalf("%v, want %v", desk.Log(), log)
			}
		}
	})
}

func errorOfFull(count int) api.Errno {
	if count < 60 {
		return api.OK
	}
	return api.ErrLarge
}

// P10.10
func TestAlertsFollow(t *testing.T) {
	count := 0
	someLogs(t, 3, 60, func(d *draws, l []api.TowerEntry) {
		for _, r := range three().Runways {
			alerts, e := tower.AlertsOn(three(), l, r.Name)
			strip, wrong := tower.StripOf(three(), l, r.Name)
			if e != api.OK || wrong != api.OK {
				t.Fatalf("errors %d and %d", e, wrong)
			}
			if want, _ := shear.AlertsOf(r.Alert, strip.Events); !same(alerts, want) || len(alerts) != strip.Alert.Number {
				t.Errorf("%v, want %v", alerts, want)
			}
			for i, x := range alerts {
				if x.Number != i+1 || x.To < x.From || i > 0 && alerts[i-1].To >= x.From {
					t.Errorf("%v", alerts)
				}
				for _, c := range []struct {
					at   int
					want bool
				}{{x.From, true}, {x.To, true}, {(x.From + x.To) / 2, true}, {x.To + 1, i+1 < len(alerts) && alerts[i+1].From == x.To+1}} {
					if got, _ := tower.StandsOn(three(), l, api.TowerLook{Runway: r.Name, At: c.at}); got != c.want {
						t.Errorf("%v at %d: %v", alerts, c.at, got)
					}
				}
			}
			count += len(alerts)
		}
	})
	if count < 100 {
		t.Errorf("only %d alerts", count)
	}
}

// P10.11
func TestNobodyUnawares(t *testing.T) {
	alerted, refusals := 0, 0
	someLogs(t, 4, 60, func(d *draws, l []api.TowerEntry) {
		for i, x := range l {
			words := strings.Split(x.Text, " ")
			if words[0] != "release" {
				continue
			}
			_, arrivals := told(l[:i], "arrival")
			k := slices.IndexFunc(arrivals, func(a []string) bool { return a[1] == words[1] })
			runway := arrivals[k][0]
			if last(l[:i], "close "+runway) > last(l[:i], "open "+runway) {
				t.Errorf("%v: closed at %v", l, x)
			}
			alerts, _ := tower.AlertsOn(three(), l[:i], runway)
			for _, a := range alerts {
				if a.From > x.At || a.To < x.At {
					continue
				}
				alerted++
				ack := api.TowerEntry{By: x.By, Text: "ack " + runway + " " + strconv.Itoa(a.Number)}
				if !slices.ContainsFunc(l[:i], func(y api.TowerEntry) bool { return y.By == ack.By && y.Text == ack.Text }) {
					t.Errorf("%v: %v is unaware of %v", l, x, a)
				}
				// Whoever has not acknowledged it is refused.
				for _, by := range []string{"con", "dan", "eve", "ida"} {
					ack.By = by
					isKnown := slices.ContainsFunc(l[:i], func(y api.TowerEntry) bool { return y.By == ack.By && y.Text == ack.Text })
					_, e := tower.Appended(three(), l[:i], api.TowerEntry{At: x.At, By: by, Text: x.Text})
					if isKnown != (e == api.OK) || !isKnown && e != api.ErrRefused {
						t.Errorf("%v: %v by %s: error %d", l, x, by, e)
					}
					if e == api.ErrRefused {
						refusals++
					}
				}
			}
		}
	})
	if alerted < 10 || refusals < 10 {
		t.Errorf("only %d releases in spite of an alert, %d refusals", alerted, refusals)
	}
}

// P10.12
func TestSeparated(t *testing.T) {
	slots, plans := 0, 0
	someLogs(t, 5, 60, func(d *draws, l []api.TowerEntry) {
		for i, strip := range stateOf(t, three(), l).Strips {
			p := api.SpacingProblem{Rule: three().Rule, Arrivals: strip.Arrivals, Free: strip.Free}
			fixed, e := spacing.FixedBy(p, strip.Slots, 100000)
			if !same(fixed, strip.Slots) || e != api.OK {
				t.Errorf("%v: error %d", strip, e)
			}
			margins, _ := spacing.MarginsOf(p, strip.Slots)
			if len(margins) > 0 && slices.Min(margins) < 0 {
				t.Errorf("%v: margins %v", strip, margins)
			}
			plan, cost, e := tower.PlanFor(three(), l, three().Runways[i].Name)
			want, best, wrong := spacing.Replanned(p, strip.Slots)
			if !same(plan, want) || cost != best || e != wrong {
				t.Errorf("%v: %v, %d, error %d, want %v, %d, error %d", strip, plan, cost, e, want, best, wrong)
			}
			if e == api.OK {
				if !same(plan[:len(strip.Slots)], strip.Slots) || len(plan) != len(strip.Arrivals) {
					t.Errorf("%v: %v", strip, plan)
				}
				plans++
			}
			slots += len(strip.Slots)
		}
	})
	if slots < 50 || plans < 50 {
		t.Errorf("only %d slots, %d plans", slots, plans)
	}
}

// P10.13
func TestRecoveredAnywhere(t *testing.T) {
	someLogs(t, 6, 50, func(d *draws, l []api.TowerEntry) {
		s := journal(t, three(), l)
		for range 20 {
			cut := d.from(0, len(s))
			whole := s[:1+strings.LastIndexByte(s[:cut], '\n')]
			got, length, e := tower.Recovered(three(), s[:cut])
			if want := l[:strings.Count(whole, "\n")]; !same(got, want) || length != len(whole) || e != api.OK {
				t.Fatalf("%q: %v, %d, error %d", s[:cut], got, length, e)
			}
			if journal(t, three(), got) != whole {
				t.Fatalf("%q: another journal", s[:cut])
			}
			// Whatever follows is left out.
			longer, length, e := tower.Recovered(three(), whole+pick(d, "x", "\n", " \n", "5 con note x 7\n", whole))
			if whole != "" && (!same(longer, got) || length != len(whole) || e != api.OK) {
				t.Fatalf("%q: %v, %d, error %d", whole, longer, length, e)
			}
		}
	})
}

// P10.14
func TestMergedAnyhow(t *testing.T) {
	before := []api.TowerEntry{}
	someLogs(t, 7, 40, func(d *draws, l []api.TowerEntry) {
		i := d.from(0, len(l))
		for _, pair := range [][2][]api.TowerEntry{{l, l[:i]}, {l[:i], l}} {
			merged, refused, e := tower.Merged(three(), pair[0], pair[1])
			if !same(merged, l) || len(refused) > 0 || e != api.OK {
				t.Fatalf("%v: %v, %v, error %d", pair, merged, refused, e)
			}
		}
		branch := append(slices.Clone(l[:i]), d.branch(l[:i])...)
		for _, pair := range [][2][]api.TowerEntry{{l, branch}, {branch, l}, {before, l}, {l, before}} {
			expectMerged(t, pair[0], pair[1])
		}
		before = l
	})
}

// branch are entries that may follow a log.
func (d *draws) branch(l []api.TowerEntry) []api.TowerEntry {
	longer := l
	for range 20 {
		tick := 0
		if len(longer) > 0 {
			tick = longer[len(longer)-1].At
		}
		s, _ := tower.StateOf(three(), longer)
		if more, e := tower.Appended(three(), longer, d.line(s, tick)); e == api.OK {
			longer = more
		}
	}
	return longer[len(l):]
}

// expectMerged merges entry by entry.
func expectMerged(t *testing.T, a, b []api.TowerEntry) {
	t.Helper()
	i := 0
	for i < len(a) && i < len(b) && a[i] == b[i] {
		i++
	}
	want, left := a, []int{}
	for ; i < len(b); i++ {
		longer := append(slices.Clone(want), b[i])
		if _, e := tower.CheckLog(three(), longer); e == api.OK {
			want = longer
		} else {
			left = append(left, i)
		}
	}
	merged, refused, e := tower.Merged(three(), a, b)
	if !same(merged, want) || !same(refused, left) || e != api.OK {
		t.Fatalf("%v and %v: %v, %v, error %d, want %v, %v", a, b, merged, refused, e, want, left)
	}
}

// R4: an entry that is refused changes nothing.
func TestRefusalsChangeNothing(t *testing.T) {
	d := &draws{8}
	refusals := map[api.Errno]int{}
	for range 15 {
		desk := newDesk(t, three(), nil)
		var log []api.TowerEntry
		for range 150 {
			s := stateOf(t, three(), log)
			tick := 0
			if len(log) > 0 {
				tick = log[len(log)-1].At
			}
			x := d.line(s, tick)
			longer, e := tower.Appended(three(), log, x)
			expect(t, "Enter", desk.Enter(x.At, x.By, x.Text), e)
			if refusals[e]++; e == api.OK {
				log = longer
			}
		}
		if !same(desk.Log(), log) || desk.Journal() != journal(t, three(), log) {
			t.Errorf("%v, want %v", desk.Log(), log)
		}
	}
	if len(refusals) < 10 {
		t.Errorf("few errors: %v", refusals)
	}
}

// R2: whatever is entered, no call panics, and a journal is recovered.
func TestSpoiledTexts(t *testing.T) {
	d := &draws{9}
	texts := busy()
	for range 20000 {
		x := pick(d, texts...)
		b := []byte(x.Text)
		for range d.from(1, 3) {
			i := d.from(0, len(b)-1)
			switch d.from(0, 2) {
			case 0:
				b[i] = pick(d, byte(' '), '0', '9', ';', '-', 'r', '1', byte(d.from(0, 255)))
			case 1:
				b = append(b[:i:i], b[i+1:]...)
			default:
				b = append(b[:i:i], append([]byte{pick(d, byte(' '), '1', ';', '-')}, b[i:]...)...)
			}
			if len(b) == 0 {
				break
			}
		}
		log, e := tower.Appended(three(), texts[:d.from(0, 3)], api.TowerEntry{At: 1000, By: x.By, Text: string(b)})
		if e != api.OK {
			continue
		}
		if got, _, _ := tower.Recovered(three(), journal(t, three(), log)); !same(got, log) {
			t.Errorf("%q: %v, want %v", b, got, log)
		}
	}
}
