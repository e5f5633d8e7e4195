package shear_test

import (
	"math"
	"reflect"
	"slices"
	"testing"

	"glidepath/api"
	"glidepath/shear"
)

// P5.4
func TestCheckRule(t *testing.T) {
	for _, x := range badRules() {
		expect(t, "rule", shear.CheckRule(x.rule), x.want)
	}
	for _, x := range []api.ShearRule{
		r(), rule(1, 0, 0, 1), rule(1, 1, 0, 1), rule(20000, 20000, 100000, 100000), rule(20000, 0, 0, 100000), rule(20000, 19999, 100000, 1),
	} {
		expect(t, "rule", shear.CheckRule(x), api.OK)
	}
}

// P5.4
func TestCheckState(t *testing.T) {
	for _, x := range badStates() {
		if e := shear.CheckState(x.state); e != x.want {
			t.Error(x, e)
		}
	}
	for _, x := range []api.ShearState{
		rests(0, -1), rests(0, 0), rests(62500, -1), rests(62500, 1000000000000), rests(3, 8),
		stands(1, 0, 0, -1), stands(1, 0, 0, 0), stands(1, 4, 4, 4), stands(1, 4, 4, -1), stands(62500, 1000000000000, 1000000000000, 1000000000000),
		stands(2, 4, 9, 4), stands(2, 4, 9, 9), stands(2, 4, 9, 6), stands(2, 4, 9, -1),
	} {
		expect(t, "state", shear.CheckState(x), api.OK)
	}
}

// P5.4
func TestCheckEvents(t *testing.T) {
	for _, x := range badHistories() {
		if i, e := shear.CheckEvents(x.events); i != x.index || e != x.want {
			t.Error(x.events, i, e, x.index, x.want)
		}
	}
	full := make([]api.ShearEvent, 40)
	for i := range full {
		full[i] = event(1000000000000-39+i, -20000, 20000)
	}
	for _, l := range [][]api.ShearEvent{nil, {}, h(), full, {event(0, 20000, 20000), event(1, -20000, -20000)}} {
		if i, e := shear.CheckEvents(l); i != 0 || e != api.OK {
			t.Error(l, i, e)
		}
	}
}

// P5.4
func TestNext(t *testing.T) {
	zero, clearless := rule(500, 300, 0, 60), rule(500, 0, 20, 60)
	for _, x := range []struct {
		rule  api.ShearRule
		state api.ShearState
		event api.ShearEvent
		want  api.ShearState
	}{
		{r(), rests(0, -1), event(10, 520, 600), stands(1, 10, 10, -1)},
		{r(), rests(0, -1), event(0, 500, 500), stands(1, 0, 0, -1)},
		{r(), rests(0, -1), event(10, 499, 600), rests(0, 10)},
		{r(), rests(7, 9), event(10, 500, 600), stands(8, 10, 10, -1)},
		{r(), rests(7, 9), event(10, -20000, 0), rests(7, 10)},
		{r(), rests(62500, 9), event(10, 499, 20000), rests(62500, 10)},
		{r(), rests(62499, 9), event(10, 500, 20000), stands(62500, 10, 10, -1)},
		{r(), stands(62500, 9, 9, -1), event(10, 500, 20000), stands(62500, 9, 10, -1)},
		// The example.
		{r(), stands(1, 10, 10, -1), event(30, 200, 290), stands(1, 10, 30, 30)},
		{r(), stands(1, 10, 30, 30), event(40, 250, 310), stands(1, 10, 40, -1)},
		{r(), stands(1, 10, 40, -1), event(55, 100, 200), stands(1, 10, 55, 55)},
		{r(), stands(1, 10, 55, 55), event(80, 0, 100), rests(1, 80)},
		// Levels.
		{r(), stands(1, 10, 10, -1), event(30, 200, 299), stands(1, 10, 30, 30)},
		{r(), stands(1, 10, 10, -1), event(30, 200, 300), stands(1, 10, 30, -1)},
		{r(), stands(1, 10, 30, 30), event(40, 300, 300), stands(1, 10, 40, -1)},
		{r(), stands(1, 10, 30, 30), event(40, 299, 299), stands(1, 10, 40, 30)},
		{r(), stands(1, 10, 30, 30), event(40, 900, 900), stands(1, 10, 40, -1)},
		// The hold time.
		{r(), stands(1, 10, 30, 30), event(49, 0, 0), stands(1, 10, 49, 30)},
		{r(), stands(1, 10, 30, 30), event(50, 0, 0), rests(1, 50)},
		{r(), stands(1, 10, 40, 30), event(50, 0, 0), rests(1, 50)},
		{r(), stands(1, 10, 40, 30), event(50, 0, 300), stands(1, 10, 50, -1)},
		{r(), stands(1, 10, 10, 10), event(30, 0, 0), rests(1, 30)},
		{zero, stands(1, 10, 10, -1), event(11, 0, 299), rests(1, 11)},
		{zero, stands(1, 10, 10, -1), event(11, 0, 300), stands(1, 10, 11, -1)},
		{clearless, stands(1, 10, 10, -1), event(11, -1, 0), stands(1, 10, 11, -1)},
		{clearless, stands(1, 10, 10, -1), event(11, -5, -1), stands(1, 10, 11, 11)},
		{clearless, stands(1, 10, 20, 11), event(31, -5, -1), rests(1, 31)},
		// The timeout.
		{r(), stands(1, 10, 30, -1), event(90, 520, 600), stands(1, 10, 90, -1)},
		{r(), stands(1, 10, 30, -1), event(91, 520, 600), stands(2, 91, 91, -1)},
		{r(), stands(1, 10, 30, 30), event(90, 400, 600), stands(1, 10, 90, -1)},
		{r(), stands(1, 10, 30, 30), event(91, 400, 600), rests(1, 91)},
		{r(), stands(1, 10, 30, -1), event(91, 0, 0), rests(1, 91)},
		{r(), stands(1, 10, 30, -1), event(90, 0, 0), stands(1, 10, 90, 90)},
		{r(), stands(62500, 10, 30, -1), event(91, 499, 600), rests(62500, 91)},
		{r(), stands(1, 10, 30, 30), event(1000000000000, 500, 500), stands(2, 1000000000000, 1000000000000, -1)},
		{rule(1, 1, 100000, 100000), stands(1, 0, 0, 0), event(100000, 0, 0), rests(1, 100000)},
		{rule(1, 1, 100000, 100000), stands(1, 0, 1, 1), event(100000, 0, 0), stands(1, 0, 100000, 1)},
	} {
		if s, e := shear.Next(x.rule, x.state, x.event); e != api.OK || s != x.want {
			t.Error(x, s, e)
		}
	}
}

// P5.4
func TestNextErrors(t *testing.T) {
	check := func(rule api.ShearRule, state api.ShearState, x api.ShearEvent, want api.Errno) {
		t.Helper()
		s, e := shear.Next(rule, state, x)
		expectOnly(t, "next", s, e, want)
	}
	for _, x := range badRules() {
		check(x.rule, rests(0, -1), event(10, 0, 0), x.want)
		check(x.rule, rests(-1, -1), event(-10, 0, 0), x.want)
		check(x.rule, api.ShearState{}, event(10, 1, 0), x.want)
	}
	for _, x := range badStates() {
		check(r(), x.state, event(10, 0, 0), x.want)
		check(r(), x.state, event(-1, 0, 0), x.want)
		check(r(), x.state, event(0, 1, 0), x.want)
	}
	for _, x := range badSingles() {
		check(r(), rests(0, -1), x.event, x.want)
		check(r(), rests(62500, 1000000000000), x.event, x.want)
	}
	for _, at := range []int{0, 9, 10} {
		check(r(), rests(0, 10), event(at, 0, 0), api.ErrOrder)
		check(r(), stands(1, 3, 10, -1), event(at, 900, 900), api.ErrOrder)
		check(r(), rests(62500, 10), event(at, 900, 900), api.ErrOrder)
	}
	check(r(), rests(62500, -1), event(0, 500, 500), api.ErrFull)
	check(r(), rests(62500, 10), event(11, 500, 900), api.ErrFull)
	check(r(), stands(62500, 10, 30, -1), event(91, 500, 900), api.ErrFull)
}

// P5.4
func TestStateAt(t *testing.T) {
	lost := []api.ShearEvent{event(10, 520, 600), event(30, 200, 290), event(95, 600, 700)}
	for _, x := range []struct {
		events []api.ShearEvent
		tick   int
		want   api.ShearState
	}{
		{h(), 0, rests(0, -1)},
		{h(), 9, rests(0, -1)},
		{h(), 10, stands(1, 10, 10, -1)},
		{h(), 29, stands(1, 10, 10, -1)},
		{h(), 30, stands(1, 10, 30, 30)},
		{h(), 40, stands(1, 10, 40, -1)},
		{h(), 55, stands(1, 10, 55, 55)},
		{h(), 79, stands(1, 10, 55, 55)},
		{h(), 80, rests(1, 80)},
		{h(), 1000000000000, rests(1, 80)},
		{h()[:2], 90, stands(1, 10, 30, 30)},
		{h()[:2], 91, rests(1, 30)},
		{lost, 90, stands(1, 10, 30, 30)},
		{lost, 91, rests(1, 30)},
		{lost, 94, rests(1, 30)},
		{lost, 95, stands(2, 95, 95, -1)},
		{lost, 155, stands(2, 95, 95, -1)},
		{lost, 156, rests(2, 95)},
		{nil, 0, rests(0, -1)},
		{nil, 1000000000000, rests(0, -1)},
	} {
		if s, e := shear.StateAt(r(), x.events, x.tick); e != api.OK || s != x.want {
			t.Error(x, s, e)
		}
	}
}

// P5.4
func TestAlertsOf(t *testing.T) {
	lost := []api.ShearEvent{event(10, 520, 600), event(30, 200, 290), event(95, 600, 700)}
	repeated := slices.Concat(h(), []api.ShearEvent{event(81, 600, 700), event(82, 600, 700), event(90, 0, 0), event(110, 0, 0), event(111, 500, 500)})
	for _, x := range []struct {
		rule   api.ShearRule
		events []api.ShearEvent
		want   []api.ShearAlert
	}{
		{r(), nil, nil},
		{r(), []api.ShearEvent{}, nil},
		{r(), h(), []api.ShearAlert{{Number: 1, From: 10, To: 79}}},
		{r(), h()[:2], []api.ShearAlert{{Number: 1, From: 10, To: 90}}},
		{r(), h()[:1], []api.ShearAlert{{Number: 1, From: 10, To: 70}}},
		{r(), h()[1:], nil},
		{r(), lost, []api.ShearAlert{{Number: 1, From: 10, To: 90}, {Number: 2, From: 95, To: 155}}},
		{r(), repeated, []api.ShearAlert{{Number: 1, From: 10, To: 79}, {Number: 2, From: 81, To: 109}, {Number: 3, From: 111, To: 171}}},
		{rule(500, 300, 0, 60), h(), []api.ShearAlert{{Number: 1, From: 10, To: 29}}},
		{rule(500, 0, 0, 60), h(), []api.ShearAlert{{Number: 1, From: 10, To: 140}}},
		{rule(500, 0, 0, 60), []api.ShearEvent{event(0, 500, 500), event(1, -2, -1)}, []api.ShearAlert{{Number: 1, From: 0, To: 0}}},
		{rule(500, 500, 100000, 1), []api.ShearEvent{event(0, 500, 500), event(1, 500, 500), event(3, 500, 500)}, []api.ShearAlert{{Number: 1, From: 0, To: 2}, {Number: 2, From: 3, To: 4}}},
		{rule(500, 500, 1, 1), []api.ShearEvent{event(0, 500, 500), event(2, 0, 0), event(4, 500, 500)}, []api.ShearAlert{{Number: 1, From: 0, To: 1}, {Number: 2, From: 4, To: 5}}},
		{r(), []api.ShearEvent{event(10, 520, 600), event(70, 500, 500)}, []api.ShearAlert{{Number: 1, From: 10, To: 130}}},
		{r(), []api.ShearEvent{event(10, 520, 600), event(71, 500, 500)}, []api.ShearAlert{{Number: 1, From: 10, To: 70}, {Number: 2, From: 71, To: 131}}},
		{rule(1, 0, 0, 100000), []api.ShearEvent{event(1000000000000, 1, 1)}, []api.ShearAlert{{Number: 1, From: 1000000000000, To: 1000000100000}}},
	} {
		if alerts, e := shear.AlertsOf(x.rule, x.events); e != api.OK || !same(alerts, x.want) {
			t.Error(x, alerts, e)
		}
	}
	// The most alerts that there can be.
	many := make([]api.ShearEvent, 40)
	for i := range many {
		many[i] = event(5*i, 500, 500)
	}
	if alerts, e := shear.AlertsOf(rule(500, 0, 0, 4), many); e != api.OK || len(alerts) != 40 || alerts[39] != (api.ShearAlert{Number: 40, From: 195, To: 199}) {
		t.Error(alerts, e)
	}
}

// P5.4
func TestHistoryErrors(t *testing.T) {
	check := func(rule api.ShearRule, l []api.ShearEvent, tick int, want api.Errno) {
		t.Helper()
		s, e := shear.StateAt(rule, l, tick)
		expectOnly(t, "state", s, e, want)
		if tick >= 0 {
			alerts, e := shear.AlertsOf(rule, l)
			expectOnly(t, "alerts", alerts, e, want)
		}
	}
	for _, x := range badRules() {
		check(x.rule, h(), 10, x.want)
		check(x.rule, []api.ShearEvent{event(-1, 1, 0)}, 10, x.want)
		check(x.rule, make([]api.ShearEvent, 41), -1, x.want)
	}
	for _, x := range badHistories() {
		check(r(), x.events, 10, x.want)
		check(r(), x.events, -1, x.want)
	}
	for _, tick := range beyond(0, 1000000000000) {
		s, e := shear.StateAt(r(), h(), tick)
		expectOnly(t, "state", s, e, api.ErrRange)
	}
}

// minutes is the automaton, tick by tick: what is known at a tick before its event, and after it.
func minutes(rule api.ShearRule, l []api.ShearEvent, last int) []api.ShearState {
	s := rests(0, -1)
	states := make([]api.ShearState, last+1)
	for tick := range states {
		if s.Standing && tick > s.Heard+rule.Timeout {
			s = rests(s.Number, s.Heard)
		}
		i := slices.IndexFunc(l, func(x api.ShearEvent) bool { return x.At == tick })
		if i >= 0 {
			s = heard(rule, s, l[i])
		}
		states[tick] = s
	}
	return states
}

func heard(rule api.ShearRule, s api.ShearState, x api.ShearEvent) api.ShearState {
	isLow := x.Loss.Hi < rule.Clear
	quiet := s.Quiet
	if quiet < 0 {
		quiet = x.At
	}
	switch {
	case !s.Standing && x.Loss.Lo >= rule.Raise:
		return stands(s.Number+1, x.At, x.At, -1)
	case !s.Standing || isLow && x.At-quiet >= rule.Hold:
		return rests(s.Number, x.At)
	case isLow:
		return stands(s.Number, s.Since, x.At, quiet)
	}
	return stands(s.Number, s.Since, x.At, -1)
}

// P5.4, P5.8, P5.9, P5.10
func TestAlertsTickByTick(t *testing.T) {
	d := draws{54}
	counts := map[string]int{}
	for n := range 1500 {
		rule := d.rule(30, 25, 30)
		l := d.events(d.from(0, 25), 5+n%20, -10, 40)
		last := 60
		if len(l) > 0 {
			last += l[len(l)-1].At
		}
		want := minutes(rule, l, last)
		alerts, e := shear.AlertsOf(rule, l)
		if e != api.OK {
			t.Fatal(rule, l, e)
		}
		counts["alerts"] += len(alerts)
		before := -1
		for i, x := range alerts {
			if x.Number != i+1 || x.From <= before || x.To < x.From {
				t.Fatal(rule, l, alerts)
			}
			before = x.To
		}
		for tick := range last + 1 {
			s, e := shear.StateAt(rule, l, tick)
			if e != api.OK || s != want[tick] || shear.CheckState(s) != api.OK {
				t.Fatal(rule, l, tick, s, e, want[tick])
			}
			i := slices.IndexFunc(alerts, func(x api.ShearAlert) bool { return x.From <= tick && tick <= x.To })
			if s.Standing != (i >= 0) || s.Standing && (alerts[i].Number != s.Number || alerts[i].From != s.Since) {
				t.Fatal(rule, l, tick, s, alerts)
			}
			k := slices.IndexFunc(l, func(x api.ShearEvent) bool { return x.At > tick })
			if k < 0 {
				continue
			}
			// From the event before on, each tick leads to the same state after the next event.
			next, e := shear.Next(rule, s, l[k])
			if e != api.OK || next != want[l[k].At] {
				t.Fatal(rule, l, tick, s, l[k], next, e)
			}
			counts["steps"]++
		}
		for i, x := range l {
			if x.Loss.Lo >= rule.Raise && !want[x.At].Standing {
				t.Fatal(rule, l, x)
			}
			if i > 0 && want[x.At].Number > 1 && want[x.At].Number > want[l[i-1].At].Number && x.At-l[i-1].At > rule.Timeout {
				counts["expired"]++
			}
		}
	}
	if counts["alerts"] < 2000 || counts["steps"] < 10000 || counts["expired"] < 200 {
		t.Error("too few cases", counts)
	}
}

// P5.8
func TestNoSecondAlertWithoutQuiet(t *testing.T) {
	d := draws{58}
	count := 0
	for range 500 {
		rule := d.rule(30, 3, 20)
		l := d.events(d.from(1, 40), rule.Timeout, rule.Clear-20, rule.Raise+10)
		for i := range l {
			l[i].Loss.Hi = max(l[i].Loss.Hi, rule.Clear)
		}
		alerts, e := shear.AlertsOf(rule, l)
		if e != api.OK || len(alerts) > 1 {
			t.Fatal(rule, l, alerts, e)
		}
		count += len(alerts)
		if last := l[len(l)-1].At; len(alerts) == 1 && alerts[0].To != last+rule.Timeout {
			t.Fatal(rule, l, alerts)
		}
	}
	if count < 200 {
		t.Error("too few alerts", count)
	}
}

// P5.9
func TestSilence(t *testing.T) {
	for _, timeout := range []int{1, 2, 60, 100000} {
		rule := rule(500, 300, 20, timeout)
		l := []api.ShearEvent{event(10, 500, 600)}
		for tick, want := range map[int]bool{9: false, 10: true, 10 + timeout: true, 11 + timeout: false, 1000000000000: false} {
			if s, e := shear.StateAt(rule, l, tick); e != api.OK || s.Standing != want || tick > 9 && (s.Number != 1 || s.Heard != 10) {
				t.Error(timeout, tick, s, e)
			}
		}
	}
}

// R3, R4
func TestEventsStay(t *testing.T) {
	l := h()
	before, e := shear.AlertsOf(r(), l)
	expect(t, "alerts", e, api.OK)
	again, _ := shear.AlertsOf(r(), l)
	if !reflect.DeepEqual(before, again) || !reflect.DeepEqual(l, h()) {
		t.Error(before, again, l)
	}
	clear(again)
	if later, _ := shear.AlertsOf(r(), l); !reflect.DeepEqual(before, later) {
		t.Error(before, later)
	}
	for tick := range 100 {
		a, _ := shear.StateAt(r(), l, tick)
		b, _ := shear.StateAt(r(), l, tick)
		if a != b || !reflect.DeepEqual(l, h()) {
			t.Error(tick, a, b, l)
		}
	}
}

// R2
func TestExtremeArguments(t *testing.T) {
	for _, a := range []int{math.MinInt, math.MaxInt, 0} {
		for _, b := range []int{math.MinInt, math.MaxInt, 0} {
			state := stands(a, b, a, b)
			if s, e := shear.Next(rule(a, b, a, b), state, event(a, b, a)); e == api.OK {
				t.Error(s, e)
			}
			if s, e := shear.Next(r(), state, event(b, a, b)); e == api.OK {
				t.Error(s, e)
			}
			if l, e := shear.AlertsOf(rule(b, a, b, a), []api.ShearEvent{event(a, b, a)}); e == api.OK {
				t.Error(l, e)
			}
		}
	}
}
