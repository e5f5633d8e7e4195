package shear_test

import (
	"math"
	"reflect"
	"slices"
	"testing"

	"glidepath/api"
)

// draws is a short rule for values that look arbitrary and are the same in every run.
type draws struct{ state uint64 }

func (d *draws) from(least, most int) int {
	d.state = d.state*6364136223846793005 + 1442695040888963407
	return least + int(d.state>>33)%(most-least+1)
}

// ends are a range that is at most wide.
func (d *draws) ends(least, most, wide int) api.Range {
	lo := d.from(least, most)
	return api.Range{Lo: lo, Hi: min(most, lo+d.from(0, wide))}
}

func (d *draws) profile(count, step, wind, wide int) []api.ShearGate {
	l := make([]api.ShearGate, count)
	at := d.from(0, step)
	for i := range l {
		l[i] = api.ShearGate{At: at, Wind: d.ends(-wind, wind, wide)}
		at += d.from(1, step)
	}
	return l
}

func (d *draws) events(count, step, least, most int) []api.ShearEvent {
	l := make([]api.ShearEvent, count)
	at := d.from(0, step)
	for i := range l {
		l[i] = api.ShearEvent{At: at, Loss: d.ends(least, most, (most-least)/2)}
		at += d.from(1, step)
	}
	return l
}

func (d *draws) rule(most, hold, timeout int) api.ShearRule {
	raise := d.from(1, most)
	return rule(raise, d.from(0, raise), d.from(0, hold), d.from(1, timeout))
}

func (d *draws) telegram() api.ShearTelegram {
	return telegram(d.from(0, 250), d.from(0, 62500), d.from(0, 2), d.from(0, 62500))
}

func ends(lo, hi int) api.Range { return api.Range{Lo: lo, Hi: hi} }

func gate(at, lo, hi int) api.ShearGate { return api.ShearGate{At: at, Wind: ends(lo, hi)} }

func event(at, lo, hi int) api.ShearEvent { return api.ShearEvent{At: at, Loss: ends(lo, hi)} }

func rule(raise, clear, hold, timeout int) api.ShearRule {
	return api.ShearRule{Raise: raise, Clear: clear, Hold: hold, Timeout: timeout}
}

func stands(number, since, heard, quiet int) api.ShearState {
	return api.ShearState{Standing: true, Number: number, Since: since, Heard: heard, Quiet: quiet}
}

func rests(number, heard int) api.ShearState {
	return api.ShearState{Number: number, Heard: heard, Quiet: -1}
}

func telegram(runway, number, kind, value int) api.ShearTelegram {
	return api.ShearTelegram{Runway: runway, Number: number, Kind: kind, Value: value}
}

func found(from, to, lo, hi int) api.ShearChange {
	return api.ShearChange{From: from, To: to, Change: ends(lo, hi)}
}

// p is the profile of the examples.
func p() []api.ShearGate {
	return []api.ShearGate{gate(0, 900, 1000), gate(500, 800, 850), gate(1500, 200, 300)}
}

// r is the rule of the examples.
func r() api.ShearRule { return rule(500, 300, 20, 60) }

// h are the events of the examples.
func h() []api.ShearEvent {
	return []api.ShearEvent{event(10, 520, 600), event(30, 200, 290), event(40, 250, 310), event(55, 100, 200), event(80, 0, 100)}
}

// outside are ranges with an end that is not between two numbers.
func outside(least, most int) []api.Range {
	return []api.Range{
		ends(least-1, least), ends(least, most+1), ends(most+1, least), ends(most, least-1), ends(least-1, most+1), ends(most+1, most+1),
		ends(least-1, least-1), ends(math.MinInt, most), ends(least, math.MaxInt), ends(math.MaxInt, math.MinInt), ends(math.MinInt, math.MinInt),
	}
}

// reversed are ranges between two numbers whose lower end is above the upper one.
func reversed(least, most int) []api.Range {
	return []api.Range{ends(most, least), ends(least+1, least), ends(most, most-1)}
}

// beyond are numbers that are not between two others.
func beyond(least, most int) []int {
	return []int{least - 1, most + 1, math.MinInt, math.MaxInt, least - 1<<32, most + 1<<32}
}

type badProfile struct {
	gates []api.ShearGate
	index int
	want  api.Errno
}

// badProfiles are profiles with their errors; most have errors that are listed later, too, which must not count.
func badProfiles() []badProfile {
	full := make([]api.ShearGate, 21)
	for i := range full {
		full[i] = gate(i, 0, 0)
	}
	bad := []badProfile{
		{full, 0, api.ErrLarge},
		{make([]api.ShearGate, 21), 0, api.ErrLarge},
		{slices.Repeat([]api.ShearGate{gate(-1, 1, 0)}, 21), 0, api.ErrLarge},
	}
	add := func(x api.ShearGate, want api.Errno) {
		bad = append(bad,
			badProfile{[]api.ShearGate{x}, 0, want},
			badProfile{[]api.ShearGate{x, gate(-1, 1, 0), x}, 0, want},
			badProfile{[]api.ShearGate{gate(0, -10000, 10000), gate(1, 0, 0), x, gate(1, 1, 0)}, 2, want},
			// Whether a gate follows the one before comes after all errors of its own.
			badProfile{[]api.ShearGate{gate(50000, 0, 0), x}, 1, want},
		)
	}
	for _, at := range beyond(0, 50000) {
		add(gate(at, 0, 0), api.ErrRange)
		add(gate(at, 1, 0), api.ErrRange)
	}
	for _, wind := range outside(-10000, 10000) {
		add(gate(2, wind.Lo, wind.Hi), api.ErrRange)
	}
	for _, wind := range reversed(-10000, 10000) {
		add(gate(2, wind.Lo, wind.Hi), api.ErrOrder)
	}
	for _, at := range []int{0, 6, 7} {
		bad = append(bad, badProfile{[]api.ShearGate{gate(0, 0, 0), gate(7, 0, 0), gate(at, 0, 0), gate(-1, 0, 0)}, 2, api.ErrOrder})
	}
	return append(bad, badProfile{[]api.ShearGate{gate(0, 0, 0), gate(0, 1, 0)}, 1, api.ErrOrder})
}

type badEvents struct {
	events []api.ShearEvent
	index  int
	want   api.Errno
}

type badEvent struct {
	event api.ShearEvent
	want  api.Errno
}

// badSingles are events with their errors.
func badSingles() []badEvent {
	var bad []badEvent
	for _, at := range beyond(0, 1000000000000) {
		bad = append(bad, badEvent{event(at, 0, 0), api.ErrRange}, badEvent{event(at, 1, 0), api.ErrRange})
	}
	for _, loss := range outside(-20000, 20000) {
		bad = append(bad, badEvent{event(20, loss.Lo, loss.Hi), api.ErrRange})
	}
	for _, loss := range reversed(-20000, 20000) {
		bad = append(bad, badEvent{event(20, loss.Lo, loss.Hi), api.ErrOrder})
	}
	return bad
}

// badHistories are events with their errors; most have errors that are listed later, too, which must not count.
func badHistories() []badEvents {
	full := make([]api.ShearEvent, 41)
	for i := range full {
		full[i] = event(i, 0, 0)
	}
	bad := []badEvents{
		{full, 0, api.ErrLarge},
		{make([]api.ShearEvent, 41), 0, api.ErrLarge},
		{slices.Repeat([]api.ShearEvent{event(-1, 1, 0)}, 41), 0, api.ErrLarge},
	}
	for _, x := range badSingles() {
		bad = append(bad,
			badEvents{[]api.ShearEvent{x.event}, 0, x.want},
			badEvents{[]api.ShearEvent{x.event, event(-1, 1, 0), x.event}, 0, x.want},
			badEvents{[]api.ShearEvent{event(0, -20000, 20000), event(1, 0, 0), x.event, event(1, 1, 0)}, 2, x.want},
			badEvents{[]api.ShearEvent{event(1000000000000, 0, 0), x.event}, 1, x.want},
		)
	}
	for _, at := range []int{0, 6, 7} {
		bad = append(bad, badEvents{[]api.ShearEvent{event(0, 0, 0), event(7, 0, 0), event(at, 0, 0), event(-1, 0, 0)}, 2, api.ErrOrder})
	}
	return append(bad, badEvents{[]api.ShearEvent{event(0, 0, 0), event(0, 1, 0)}, 1, api.ErrOrder})
}

type badRule struct {
	rule api.ShearRule
	want api.Errno
}

// badRules are rules with their errors.
func badRules() []badRule {
	var bad []badRule
	add := func(want api.Errno, l ...api.ShearRule) {
		for _, x := range l {
			bad = append(bad, badRule{x, want})
		}
	}
	for _, x := range beyond(1, 20000) {
		add(api.ErrRange, rule(x, 0, 0, 1))
	}
	for _, x := range beyond(0, 20000) {
		add(api.ErrRange, rule(20000, x, 0, 1), rule(1, x, 0, 1))
	}
	for _, x := range beyond(0, 100000) {
		add(api.ErrRange, rule(1, 0, x, 1), rule(1, 2, x, 1))
	}
	for _, x := range beyond(1, 100000) {
		add(api.ErrRange, rule(1, 0, 0, x), rule(1, 2, 0, x))
	}
	add(api.ErrRange, rule(0, 0, 0, 0), api.ShearRule{})
	add(api.ErrOrder, rule(1, 2, 0, 1), rule(1, 20000, 100000, 100000), rule(19999, 20000, 3, 4))
	return bad
}

type badState struct {
	state api.ShearState
	want  api.Errno
}

// badStates are states with their errors.
func badStates() []badState {
	var bad []badState
	add := func(want api.Errno, l ...api.ShearState) {
		for _, x := range l {
			bad = append(bad, badState{x, want})
		}
	}
	for _, x := range beyond(0, 62500) {
		add(api.ErrRange, stands(x, 3, 4, -1), rests(x, 4), api.ShearState{Number: x, Since: 1})
	}
	for _, x := range beyond(0, 1000000000000) {
		add(api.ErrRange, stands(1, x, 4, -1), api.ShearState{Since: x, Heard: 4, Quiet: -1}, api.ShearState{Since: x})
	}
	for _, x := range beyond(-1, 1000000000000) {
		add(api.ErrRange, stands(1, 3, x, -1), rests(1, x), stands(1, 3, 4, x), api.ShearState{Number: 1, Heard: 4, Quiet: x}, stands(0, 3, 4, x))
	}
	add(api.ErrForm,
		api.ShearState{},
		api.ShearState{Since: 1, Heard: 4, Quiet: -1},
		api.ShearState{Number: 1, Since: 4, Heard: 4, Quiet: -1},
		api.ShearState{Heard: -1, Quiet: 0},
		api.ShearState{Number: 1, Heard: 4, Quiet: 4},
		stands(0, 3, 4, -1),
		stands(0, 0, 0, -1),
		stands(1, 0, -1, -1),
		stands(1, 5, 4, -1),
		stands(1, 3, 4, 5),
		stands(1, 3, 4, 2),
		stands(1, 3, 4, 0),
		stands(1, 1000000000000, 999999999999, -1),
	)
	return bad
}

// same is for slices, of which nil and empty ones are the same.
func same[T any](a, b []T) bool {
	return len(a) == 0 && len(b) == 0 || reflect.DeepEqual(a, b)
}

func expect(t *testing.T, what string, got, want api.Errno) {
	t.Helper()
	if got != want {
		t.Errorf("%s: error %d, want %d", what, got, want)
	}
}

// expectOnly is for results with an error, which are zero.
func expectOnly(t *testing.T, what string, result any, got, want api.Errno) {
	t.Helper()
	expect(t, what, got, want)
	v := reflect.ValueOf(result)
	if v.Kind() == reflect.Slice && v.Len() == 0 {
		return
	}
	if !v.IsZero() {
		t.Errorf("%s: %v together with an error", what, result)
	}
}
