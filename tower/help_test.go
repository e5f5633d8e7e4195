package tower_test

import (
	"math"
	"reflect"
	"slices"
	"strconv"
	"strings"
	"testing"

	"glidepath/api"
	"glidepath/tower"
)

// draws is a short rule for values that look arbitrary and are the same in every run.
type draws struct{ state uint64 }

func (d *draws) from(least, most int) int {
	d.state = d.state*6364136223846793005 + 1442695040888963407
	return least + int(d.state>>33)%(most-least+1)
}

func pick[T any](d *draws, l ...T) T { return l[d.from(0, len(l)-1)] }

func person(name string, role int) api.TowerPerson { return api.TowerPerson{Name: name, Role: role} }

func runway(name string, direction [3]int, alert api.ShearRule) api.TowerRunway {
	return api.TowerRunway{Name: name, Direction: direction, Alert: alert}
}

func rule(raise, clear, hold, timeout int) api.ShearRule {
	return api.ShearRule{Raise: raise, Clear: clear, Hold: hold, Timeout: timeout}
}

// n is the net of the examples.
func n() api.TowerNet {
	return api.TowerNet{
		People:  []api.TowerPerson{person("eve", 2), person("con", 1), person("dan", 1), person("ida", 3), person("gus", 0)},
		Runways: []api.TowerRunway{runway("r1", [3]int{1, 0, 0}, rule(500, 300, 20, 60))},
		Rule:    api.SpacingRule{Seconds: [][]int{{90, 60}, {60, 60}}, Free: [][]int{{90, 60}, {60, 60}}},
		Length:  1000,
	}
}

// three has three runways, the second one with another direction and another rule, and smaller
// separations where the corridor is free.
func three() api.TowerNet {
	x := n()
	x.Runways = append(x.Runways, runway("r2", [3]int{0, -2, 1}, rule(100, 50, 0, 10)), runway("r3", [3]int{1, 0, 0}, rule(1, 0, 5, 20)))
	x.Rule.Free = [][]int{{50, 40}, {30, 60}}
	return x
}

// l is the log of the examples.
func l() []api.TowerEntry {
	return entries(
		"1 eve lidar l1",
		"5 con scan l1 r1 0 1 0 0 900 1000;0 1 0 0 0;0 0 1 0 0",
		"6 con scan l1 r1 1000 1 0 0 200 300;0 1 0 0 0;0 0 1 0 0",
		"10 con assess r1",
		"11 con arrival r1 aa1 0 100 900 1",
		"12 con ack r1 1",
		"13 con release aa1 100",
	)
}

// busy is a log of the net with three runways that has all texts.
func busy() []api.TowerEntry {
	return entries(
		"0 gus note good morning",
		"1 eve lidar l1",
		"1 eve lidar l2",
		"2 eve stop l2",
		"3 ida start l2",
		"5 con scan l1 r1 0 1 0 0 900 1000;0 1 0 0 0;0 0 1 0 0",
		"6 con scan l2 r1 1000 1 0 0 200 300;0 1 0 0 0;0 0 1 0 0",
		"6 dan scan l1 r2 100 0 1 0 -50 -40;1 0 0 0 0;0 0 1 0 0",
		"7 dan scan l1 r2 300 0 1 0 100 100;1 0 0 0 0;0 0 1 -5 0",
		"10 con assess r1",
		"10 con assess r2",
		"11 con arrival r1 aa1 0 100 900 1",
		"11 con arrival r2 bb2 1 50 500 2",
		"11 con arrival r1 cc3 1 100 2000 0",
		"12 con ack r1 1",
		"12 dan ack r1 1",
		"13 con release aa1 100",
		"13 dan release cc3 160",
		"14 con free cc3",
		"15 con free aa1",
		"16 dan around aa1 300",
		"20 ida close r2 snow",
		"21 ida open r2",
		"21 con release bb2 60",
		"22 con release aa1 500",
		"23 ida close r3 ice on the runway",
	)
}

// entry has a tick, a person and a text, with a blank between.
func entry(s string) api.TowerEntry {
	words := strings.SplitN(s, " ", 3)
	at, wrong := strconv.Atoi(words[0])
	if wrong != nil {
		panic(wrong)
	}
	return api.TowerEntry{At: at, By: words[1], Text: words[2]}
}

func entries(l ...string) []api.TowerEntry {
	var log []api.TowerEntry
	for _, s := range l {
		log = append(log, entry(s))
	}
	return log
}

// after is the log of the examples with further entries.
func after(further ...string) []api.TowerEntry { return append(l(), entries(further...)...) }

// full is the longest log.
func full() []api.TowerEntry { return slices.Repeat(entries("7 gus note all is well"), 60) }

// readings are those of a wind along X between two numbers.
func readings(lo, hi int) string {
	return "1 0 0 " + strconv.Itoa(lo) + " " + strconv.Itoa(hi) + ";0 1 0 0 0;0 0 1 0 0"
}

func scan(lidar, runway string, position, lo, hi int) string {
	return "scan " + lidar + " " + runway + " " + strconv.Itoa(position) + " " + readings(lo, hi)
}

func ends(lo, hi int) api.Range { return api.Range{Lo: lo, Hi: hi} }

func gate(at, lo, hi int) api.ShearGate { return api.ShearGate{At: at, Wind: ends(lo, hi)} }

func event(at, lo, hi int) api.ShearEvent { return api.ShearEvent{At: at, Loss: ends(lo, hi)} }

func stands(number, since, heard, quiet int) api.ShearState {
	return api.ShearState{Standing: true, Number: number, Since: since, Heard: heard, Quiet: quiet}
}

func rests(number, heard int) api.ShearState {
	return api.ShearState{Number: number, Heard: heard, Quiet: -1}
}

func arrival(name string, category, earliest, latest, cost int) api.SpacingArrival {
	return api.SpacingArrival{Name: name, Category: category, Earliest: earliest, Latest: latest, Cost: cost}
}

func slot(arrival, time int) api.SpacingSlot { return api.SpacingSlot{Arrival: arrival, Time: time} }

// stateOf is the state after a log that is valid.
func stateOf(t *testing.T, n api.TowerNet, l []api.TowerEntry) api.TowerState {
	t.Helper()
	s, e := tower.StateOf(n, l)
	if e != api.OK {
		i, _ := tower.CheckLog(n, l)
		t.Fatalf("%v: error %d of entry %d", l, e, i)
	}
	return s
}

// stripOf is that of the runway r1.
func stripOf(t *testing.T, n api.TowerNet, l []api.TowerEntry) api.TowerStrip {
	t.Helper()
	return stateOf(t, n, l).Strips[0]
}

func journal(t *testing.T, n api.TowerNet, l []api.TowerEntry) string {
	t.Helper()
	s, e := tower.Journal(n, l)
	if e != api.OK {
		t.Fatalf("%v: error %d", l, e)
	}
	return s
}

// refused is an entry with its error, after others; most have errors that are listed later, too,
// which must not count.
type refused struct {
	before []string
	line   string
	want   api.Errno
}

// expectRefused enters into a log that is valid.
func expectRefused(t *testing.T, n api.TowerNet, log []api.TowerEntry, l ...refused) {
	t.Helper()
	for _, c := range l {
		before := append(slices.Clone(log), entries(c.before...)...)
		stateOf(t, n, before)
		i, e := tower.CheckLog(n, append(before, entry(c.line)))
		if i != len(before) || e != c.want {
			t.Errorf("%q, then %q: %d, error %d, want %d, error %d", c.before, c.line, i, e, len(before), c.want)
		}
		longer, e := tower.Appended(n, before, entry(c.line))
		expectOnly(t, c.line, longer, e, c.want)
	}
}

// beyond are numbers that are not between two others.
func beyond(least, most int) []int {
	return []int{least - 1, most + 1, math.MinInt, math.MaxInt, least - 1<<32, most + 1<<32}
}

// bad is a value with its error, and the index of the item that it concerns.
type bad[T any] struct {
	value T
	index int
	want  api.Errno
}

// badNames are no names.
func badNames() []string {
	return []string{
		"", "1", "-", "1a", "-a", "a b", " a", "a ", "a_", "a.", "abcdefghijklm", "ä", "aä", "a\x00", "\xff", "a/", "a:", "@", "[", "`", "{", "a@", "a[", "a`", "a{", "a\n",
	}
}

// goodNames are names.
func goodNames() []string {
	return []string{"a", "z", "A", "Z", "a-", "a0", "a9", "mAz-Z09", "abcdefghijkl"}
}

// badNets have errors that are listed later, too, which must not count.
func badNets() []bad[api.TowerNet] {
	var l []bad[api.TowerNet]
	add := func(index int, want api.Errno, change func(*api.TowerNet)) {
		simple, later := n(), n()
		change(&simple)
		// The last error of all.
		later.Length = 0
		change(&later)
		l = append(l, bad[api.TowerNet]{simple, index, want}, bad[api.TowerNet]{later, index, want})
	}
	addPeople := func(index int, want api.Errno, people ...api.TowerPerson) {
		add(index, want, func(x *api.TowerNet) { x.People = people })
		// All errors of people come before those of runways.
		add(index, want, func(x *api.TowerNet) { x.People, x.Runways[0].Name = people, "" })
	}
	addRunways := func(index int, want api.Errno, runways ...api.TowerRunway) {
		add(index, want, func(x *api.TowerNet) { x.Runways = runways })
		// All errors of runways come before those of the rule.
		add(index, want, func(x *api.TowerNet) { x.Runways, x.Rule.Seconds = runways, nil })
	}
	addShapes(add)
	one, two := person("a", 3), person("b", 0)
	for _, name := range badNames() {
		addPeople(0, api.ErrName, person(name, 0))
		addPeople(2, api.ErrName, one, two, person(name, -1), person("", 0))
		addPeople(2, api.ErrName, one, two, person(name, 4))
	}
	addPeople(1, api.ErrExists, one, person("a", 0))
	addPeople(2, api.ErrExists, one, two, person("a", -1), person("", 0))
	addPeople(2, api.ErrExists, one, two, person("b", 4))
	for _, role := range beyond(0, 3) {
		addPeople(0, api.ErrKind, person("a", role))
		addPeople(2, api.ErrKind, one, two, person("c", role), person("", 0))
	}
	first, second := runway("a", [3]int{9, 9, 9}, rule(1, 0, 0, 1)), runway("b", [3]int{-9, -9, -9}, rule(20000, 20000, 100000, 100000))
	for _, name := range badNames() {
		addRunways(0, api.ErrName, runway(name, [3]int{1}, rule(1, 0, 0, 1)))
		addRunways(2, api.ErrName, first, second, runway(name, [3]int{10}, rule(1, 0, 0, 1)))
		addRunways(1, api.ErrName, first, runway(name, [3]int{}, rule(0, 0, 0, 0)), runway("", [3]int{}, rule(0, 0, 0, 0)))
	}
	addRunways(1, api.ErrExists, first, runway("a", [3]int{10}, rule(1, 0, 0, 1)))
	addRunways(2, api.ErrExists, first, second, runway("a", [3]int{}, rule(0, 0, 0, 0)))
	addRunways(2, api.ErrExists, first, second, runway("b", [3]int{1}, rule(1, 0, 0, 1)))
	for _, x := range beyond(-9, 9) {
		for k := range 3 {
			direction := [3]int{}
			direction[k] = x
			addRunways(0, api.ErrRange, runway("a", direction, rule(1, 0, 0, 1)))
			addRunways(2, api.ErrRange, first, second, runway("c", direction, rule(1, 2, 0, 1)))
		}
	}
	addRunways(0, api.ErrZero, runway("a", [3]int{}, rule(1, 0, 0, 1)))
	addRunways(1, api.ErrZero, first, runway("c", [3]int{}, rule(0, 0, 0, 0)), runway("", [3]int{}, rule(0, 0, 0, 0)))
	addRunways(0, api.ErrRange, runway("a", [3]int{1}, rule(0, 0, 0, 1)))
	addRunways(2, api.ErrRange, first, second, runway("c", [3]int{1}, rule(20001, 0, 0, 1)))
	addRunways(0, api.ErrOrder, runway("a", [3]int{1}, rule(1, 2, 0, 1)), runway("", [3]int{1}, rule(1, 0, 0, 1)))
	addRunways(1, api.ErrOrder, first, runway("c", [3]int{1}, rule(1, 2, 0, 1)))
	return append(l, badRules()...)
}

// addShapes adds nets with a wrong number of people or of runways, whose other errors must not
// count.
func addShapes(add func(int, api.Errno, func(*api.TowerNet))) {
	for _, x := range []struct {
		people, runways int
		want            api.Errno
	}{
		{0, 1, api.ErrShape}, {1, 0, api.ErrShape}, {0, 0, api.ErrShape}, {0, 4, api.ErrShape}, {9, 0, api.ErrShape},
		{9, 1, api.ErrLarge}, {1, 4, api.ErrLarge}, {9, 4, api.ErrLarge}, {100000, 100000, api.ErrLarge},
	} {
		add(0, x.want, func(net *api.TowerNet) {
			net.People, net.Runways = make([]api.TowerPerson, x.people), make([]api.TowerRunway, x.runways)
		})
	}
	add(0, api.ErrLarge, func(net *api.TowerNet) {
		net.People = nil
		for _, name := range goodNames() {
			net.People = append(net.People, person(name, 1))
		}
	})
	add(0, api.ErrLarge, func(net *api.TowerNet) {
		net.Runways = nil
		for _, name := range goodNames()[:4] {
			net.Runways = append(net.Runways, runway(name, [3]int{1}, rule(1, 0, 0, 1)))
		}
	})
}

// badRules are nets with an error that concerns no item.
func badRules() []bad[api.TowerNet] {
	var l []bad[api.TowerNet]
	for _, x := range []bad[api.SpacingRule]{
		{api.SpacingRule{}, 0, api.ErrShape},
		{api.SpacingRule{Seconds: [][]int{{1}}}, 0, api.ErrShape},
		{api.SpacingRule{Seconds: make([][]int, 5), Free: make([][]int, 5)}, 0, api.ErrLarge},
		// The index of the row is not one of the net.
		{api.SpacingRule{Seconds: [][]int{{1, 1}, {1}}, Free: [][]int{{1, 1}, {1, 1}}}, 0, api.ErrShape},
		{api.SpacingRule{Seconds: [][]int{{1, 1}, {1, 601}}, Free: [][]int{{1, 1}, {1, 1}}}, 0, api.ErrRange},
		{api.SpacingRule{Seconds: [][]int{{1, 1}, {1, 1}}, Free: [][]int{{1, 1}, {1, 2}}}, 0, api.ErrRange},
	} {
		for _, length := range []int{1000, 0} {
			net := n()
			net.Rule, net.Length = x.value, length
			l = append(l, bad[api.TowerNet]{net, 0, x.want})
		}
	}
	for _, length := range beyond(1, 50000) {
		net := n()
		net.Length = length
		l = append(l, bad[api.TowerNet]{net, 0, api.ErrRange})
	}
	return append(l, bad[api.TowerNet]{api.TowerNet{}, 0, api.ErrShape})
}

// badLogs are logs of the net of the examples whose errors are not those of the table; they have
// errors that are listed later, too, which must not count.
func badLogs() []bad[[]api.TowerEntry] {
	type log = []api.TowerEntry
	wrong := api.TowerEntry{At: -1, By: "nobody", Text: "\n"}
	logs := []bad[log]{
		{append(full(), entry("7 gus note")), 0, api.ErrLarge},
		{append(full(), entry("7 gus note one too many")), 0, api.ErrLarge},
		{make(log, 61), 0, api.ErrLarge},
		{slices.Repeat(log{wrong}, 100000), 0, api.ErrLarge},
		{append(full()[1:], wrong), 59, api.ErrMissing},
	}
	add := func(want api.Errno, at int, by, text string) {
		x := api.TowerEntry{At: at, By: by, Text: text}
		logs = append(logs, bad[log]{log{x}, 0, want}, bad[log]{append(l(), x), 7, want}, bad[log]{append(l(), x, wrong), 7, want})
	}
	for _, by := range append(badNames(), "l1", "r1", "aa1", "Con", "CON", "co", "conn", "eve ") {
		add(api.ErrMissing, 20, by, "note x")
		add(api.ErrMissing, -1, by, "\n")
	}
	for _, at := range beyond(0, 1000000000000) {
		add(api.ErrRange, at, "con", "note x")
		add(api.ErrRange, at, "con", strings.Repeat("\n", 401))
	}
	for _, at := range []int{0, 12} {
		logs = append(logs, bad[log]{append(l(), api.TowerEntry{At: at, By: "con", Text: "note x"}), 7, api.ErrOrder}, bad[log]{append(l(), api.TowerEntry{At: at, By: "con", Text: strings.Repeat("\n", 401)}), 7, api.ErrOrder})
	}
	for _, text := range []string{"note " + strings.Repeat("x", 396), "note " + strings.Repeat(" ", 396), strings.Repeat("x", 401), strings.Repeat("\n", 401), strings.Repeat("x", 1000000)} {
		add(api.ErrLarge, 20, "gus", text)
	}
	for _, c := range []string{"\n", "\x00", "\x1f", "\x7f", "\x80", "\xff", "ä", "\t"} {
		for _, text := range []string{"note " + c, "note x" + c + "x", c, c + "note x", "lidar " + c, "assess" + c, "note" + c + "x", strings.Repeat("x", 396) + c} {
			add(api.ErrForm, 20, "gus", text)
		}
	}
	for _, text := range badWords() {
		add(api.ErrSyntax, 20, "gus", text)
		add(api.ErrSyntax, 20, "ida", text)
	}
	return logs
}

// badWords are texts whose first word is not one of the table, or nothing follows it.
func badWords() []string {
	return []string{
		"", " ", "x", "Note x", "NOTE x", "notes x", "not x", " note x", "note1 x", "note", "lidars l2", "lidar,l2", "Open r1", "  ", "open-r1", "profile r1", "count", "scans l1 r1 0 1 0 0 1 1", "acks r1 1", "~", "!",
	}
}

// same is for slices, of which nil and empty ones are the same.
func same[T any](a, b []T) bool {
	return len(a) == 0 && len(b) == 0 || reflect.DeepEqual(a, b)
}

// alike is for states and their parts, in which nil and empty slices are the same, too.
func alike(a, b any) bool { return alikeValues(reflect.ValueOf(a), reflect.ValueOf(b)) }

func alikeValues(a, b reflect.Value) bool {
	switch a.Kind() {
	case reflect.Slice:
		if a.Len() != b.Len() {
			return false
		}
		for i := range a.Len() {
			if !alikeValues(a.Index(i), b.Index(i)) {
				return false
			}
		}
		return true
	case reflect.Struct:
		for i := range a.NumField() {
			if !alikeValues(a.Field(i), b.Field(i)) {
				return false
			}
		}
		return true
	}
	return a.Interface() == b.Interface()
}

func expect(t *testing.T, what string, got, want api.Errno) {
	t.Helper()
	if got != want {
		t.Errorf("%s: error %d, want %d", what, got, want)
	}
}

// expectOnly is for results with an error, which are zero.
func expectOnly(t *testing.T, what string, result any, got, want api.Errno) {
	t.Helper()
	expect(t, what, got, want)
	v := reflect.ValueOf(result)
	if v.Kind() == reflect.Slice && v.Len() == 0 {
		return
	}
	if !v.IsZero() {
		t.Errorf("%s: %v together with an error", what, result)
	}
}
