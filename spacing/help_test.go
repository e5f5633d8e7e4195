package spacing_test

import (
	"math"
	"reflect"
	"slices"
	"testing"

	"glidepath/api"
)

// draws is a short rule for values that look arbitrary and are the same in every run.
type draws struct{ state uint64 }

func (d *draws) from(least, most int) int {
	d.state = d.state*6364136223846793005 + 1442695040888963407
	return least + int(d.state>>33)%(most-least+1)
}

func (d *draws) rule(categories, seconds int) api.SpacingRule {
	var r api.SpacingRule
	for range categories {
		row, free := make([]int, categories), make([]int, categories)
		for i := range row {
			row[i] = d.from(0, seconds)
			free[i] = d.from(0, row[i])
		}
		r.Seconds, r.Free = append(r.Seconds, row), append(r.Free, free)
	}
	return r
}

// set is a set of numbers from 0 to count - 1.
func (d *draws) set(count int) []int {
	var l []int
	for i := range count {
		if d.from(0, 2) == 0 {
			l = append(l, i)
		}
	}
	return l
}

// problem has windows that are at most so wide, and separations that are at most half of it.
func (d *draws) problem(count, wide, cost int) api.SpacingProblem {
	p := api.SpacingProblem{Rule: d.rule(d.from(1, 4), min(600, wide/2)), Free: d.set(count)}
	for i := range count {
		earliest := d.from(0, wide)
		p.Arrivals = append(p.Arrivals, api.SpacingArrival{
			Name:     string(rune('a' + i)),
			Category: d.from(0, len(p.Rule.Seconds)-1),
			Earliest: earliest,
			Latest:   earliest + d.from(0, wide),
			Cost:     d.from(0, cost),
		})
	}
	return p
}

// order is an order of some of so many arrivals.
func (d *draws) order(count int) []int {
	var l []int
	for range d.from(0, count) {
		x := d.from(0, count-1)
		if !slices.Contains(l, x) {
			l = append(l, x)
		}
	}
	return l
}

// problems are small ones of all sizes; many have no plan, many have several best ones.
func problems(seed uint64, count int) []api.SpacingProblem {
	draw := &draws{seed}
	var l []api.SpacingProblem
	for i := range count {
		l = append(l, draw.problem(i%7, []int{4, 20, 600, 3000}[i/7%4], []int{1, 3, 100}[i/28%3]))
	}
	return l
}

func arrival(name string, category, earliest, latest, cost int) api.SpacingArrival {
	return api.SpacingArrival{Name: name, Category: category, Earliest: earliest, Latest: latest, Cost: cost}
}

func slot(arrival, time int) api.SpacingSlot { return api.SpacingSlot{Arrival: arrival, Time: time} }

// slots takes an arrival and its time, again and again.
func slots(l ...int) []api.SpacingSlot {
	var plan []api.SpacingSlot
	for i := 0; i < len(l); i += 2 {
		plan = append(plan, slot(l[i], l[i+1]))
	}
	return plan
}

// r and p are the rule and the problem of the examples.
func r() api.SpacingRule {
	return api.SpacingRule{Seconds: [][]int{{90, 120}, {60, 60}}, Free: [][]int{{60, 80}, {60, 60}}}
}

func p() api.SpacingProblem {
	return api.SpacingProblem{Rule: r(), Arrivals: []api.SpacingArrival{
		arrival("a", 0, 0, 1000, 1), arrival("b", 1, 10, 1000, 1), arrival("c", 0, 20, 1000, 2),
	}}
}

func withFree(p api.SpacingProblem, free ...int) api.SpacingProblem {
	p.Free = free
	return p
}

// single is a problem of one category, which is separated by so much.
func single(seconds int, arrivals ...api.SpacingArrival) api.SpacingProblem {
	rows := [][]int{{seconds}}
	return api.SpacingProblem{Rule: api.SpacingRule{Seconds: rows, Free: rows}, Arrivals: arrivals}
}

func copied(p api.SpacingProblem) api.SpacingProblem {
	p.Rule = api.SpacingRule{Seconds: copiedRows(p.Rule.Seconds), Free: copiedRows(p.Rule.Free)}
	p.Arrivals, p.Free = slices.Clone(p.Arrivals), slices.Clone(p.Free)
	return p
}

func copiedRows(rows [][]int) [][]int {
	l := slices.Clone(rows)
	for i := range l {
		l[i] = slices.Clone(l[i])
	}
	return l
}

// apart is the separation of an arrival from an earlier one, as the chapter defines it.
func apart(p api.SpacingProblem, leader, follower int) int {
	rows := p.Rule.Seconds
	if slices.Contains(p.Free, leader) {
		rows = p.Rule.Free
	}
	return rows[p.Arrivals[leader].Category][p.Arrivals[follower].Category]
}

// keepsRules compares all two slots; it does not ask whether an arrival has several.
func keepsRules(p api.SpacingProblem, plan []api.SpacingSlot) bool {
	for i, x := range plan {
		a := p.Arrivals[x.Arrival]
		if x.Time < a.Earliest || x.Time > a.Latest {
			return false
		}
		for _, leader := range plan[:i] {
			if x.Time-leader.Time < apart(p, leader.Arrival, x.Arrival) {
				return false
			}
		}
	}
	return true
}

func costOf(p api.SpacingProblem, plan []api.SpacingSlot) int {
	cost := 0
	for _, x := range plan {
		cost += p.Arrivals[x.Arrival].Cost * (x.Time - p.Arrivals[x.Arrival].Earliest)
	}
	return cost
}

// timed gives an order the first times that keep the rules, one by one: each is the earliest one
// of the arrival, or as late as one of those before asks.
func timed(p api.SpacingProblem, plan []api.SpacingSlot, order []int) ([]api.SpacingSlot, bool) {
	plan = slices.Clone(plan)
	for _, x := range order {
		times := []int{p.Arrivals[x].Earliest}
		for _, leader := range plan {
			times = append(times, leader.Time+apart(p, leader.Arrival, x))
		}
		slices.Sort(times)
		first := slices.IndexFunc(times, func(time int) bool {
			return keepsRules(p, append(slices.Clone(plan), slot(x, time)))
		})
		if first < 0 {
			return nil, false
		}
		plan = append(plan, slot(x, times[first]))
	}
	return plan, true
}

// permuted calls with each order of some numbers, in lexicographic order if they ascend.
func permuted(l []int, call func(order []int)) {
	var grow func(begun, left []int)
	grow = func(begun, left []int) {
		if len(left) == 0 {
			call(slices.Clone(begun))
		}
		for i, x := range left {
			grow(append(slices.Clone(begun), x), slices.Delete(slices.Clone(left), i, i+1))
		}
	}
	grow(nil, l)
}

func indexes(count int) []int {
	var l []int
	for i := range count {
		l = append(l, i)
	}
	return l
}

// beyond are numbers that are not between two others.
func beyond(least, most int) []int {
	return []int{least - 1, most + 1, math.MinInt, math.MaxInt, least - 1<<32, most + 1<<32}
}

// bad is a value with its error, and the index of the part that it concerns.
type bad[T any] struct {
	value T
	index int
	want  api.Errno
}

// badRules have errors that are listed later, too, which must not count.
func badRules() []bad[api.SpacingRule] {
	rule := func(seconds, free [][]int) api.SpacingRule { return api.SpacingRule{Seconds: seconds, Free: free} }
	five := slices.Repeat([][]int{{1, 1, 1, 1, 1}}, 5)
	good := [][]int{{1, 2}, {3, 4}}
	l := []bad[api.SpacingRule]{
		{api.SpacingRule{}, 0, api.ErrShape},
		{rule(nil, [][]int{{1}}), 0, api.ErrShape},
		{rule([][]int{{1}}, nil), 0, api.ErrShape},
		{rule([][]int{}, [][]int{}), 0, api.ErrShape},
		{rule(good, good[:1]), 0, api.ErrShape},
		{rule(good[:1], good), 0, api.ErrShape},
		{rule(five, five[:4]), 0, api.ErrShape},
		{rule(five[:4], five), 0, api.ErrShape},
		{rule(five, five), 0, api.ErrLarge},
		{rule(make([][]int, 5), make([][]int, 5)), 0, api.ErrLarge},
		{rule([][]int{{}}, [][]int{{1}}), 0, api.ErrShape},
		{rule([][]int{{1}}, [][]int{nil}), 0, api.ErrShape},
		{rule([][]int{{-1, 1}}, [][]int{{1}}), 0, api.ErrShape},
		{rule([][]int{{-1}}, [][]int{{1, 1}}), 0, api.ErrShape},
		{rule([][]int{{1, 2}, {3}}, good), 1, api.ErrShape},
		{rule([][]int{{1, 2}, {3, 4, 5}}, good), 1, api.ErrShape},
		{rule(good, [][]int{{1, 2}, {3}}), 1, api.ErrShape},
		{rule(good, [][]int{{1, 2}, {3, 4, 4}}), 1, api.ErrShape},
		{rule([][]int{{1, 2}, {-1}}, good), 1, api.ErrShape},
		// The numbers of a row come before the rows after it.
		{rule([][]int{{1, -2}, {3}}, good), 0, api.ErrRange},
		{rule(good, [][]int{{1, 3}, {3}}), 0, api.ErrRange},
		{rule(good, [][]int{{2, 2}, {3, 4}}), 0, api.ErrRange},
		{rule(good, [][]int{{1, 2}, {3, 5}}), 1, api.ErrRange},
		{rule(good, [][]int{{1, 2}, {-1, 4}}), 1, api.ErrRange},
		{rule([][]int{{0}}, [][]int{{1}}), 0, api.ErrRange},
		{rule([][]int{{600}}, [][]int{{601}}), 0, api.ErrRange},
		{rule([][]int{{601}}, [][]int{{600}}), 0, api.ErrRange},
		{rule([][]int{{-1}}, [][]int{{-1}}), 0, api.ErrRange},
		{rule([][]int{{1, 1, 1, 1}, {1, 1, 1, 1}, {1, 1, 1, 1}, {1, 1, 1, 601}}, slices.Repeat([][]int{{1, 1, 1, 1}}, 4)), 3, api.ErrRange},
	}
	for _, x := range beyond(0, 600) {
		l = append(l,
			bad[api.SpacingRule]{rule([][]int{{x}}, [][]int{{0}}), 0, api.ErrRange},
			bad[api.SpacingRule]{rule([][]int{{x}}, [][]int{{x}}), 0, api.ErrRange},
			bad[api.SpacingRule]{rule([][]int{{600}}, [][]int{{x}}), 0, api.ErrRange},
			bad[api.SpacingRule]{rule([][]int{{600, 600}, {600, 600}}, [][]int{{0, 600}, {600, x}}), 1, api.ErrRange},
			bad[api.SpacingRule]{rule([][]int{{600, 600}, {0, x}}, [][]int{{0, 600}, {0, 0}}), 1, api.ErrRange},
		)
	}
	return l
}

func badArrivals() []bad[[]api.SpacingArrival] {
	type list = []api.SpacingArrival
	full := list{arrival("a", 0, 0, 9, 1), arrival("b", 1, 2, 2, 0), arrival("c", 3, 0, 100000, 100), arrival("d", 0, 0, 0, 0), arrival("A", 0, 1, 2, 3), arrival("a-9", 1, 1, 1, 1)}
	l := []bad[list]{
		{append(slices.Clone(full), arrival("g", 0, 0, 0, 0)), 0, api.ErrLarge},
		{make(list, 7), 0, api.ErrLarge},
		// All errors of an arrival come before those of the next one.
		{list{arrival("a", 0, 2, 1, 0), arrival("", 0, 0, 0, 0)}, 0, api.ErrOrder},
		{list{arrival("a", 0, 0, 0, 101), arrival("a", 0, 0, 0, 0)}, 0, api.ErrRange},
	}
	add := func(want api.Errno, x api.SpacingArrival) {
		l = append(l, bad[list]{list{x}, 0, want}, bad[list]{append(slices.Clone(full[:5]), x), 5, want}, bad[list]{list{full[1], x, x}, 1, want})
	}
	for _, name := range []string{"", "1a", "-a", "a b", "a_", "a.", "é", "aé", "a\x00", "abcdefghijklm", " a", "a ", "@a", "[a", "`a", "{a", "a/", "a:", "a@", "a[", "a`", "a{", "a,", "a;b"} {
		add(api.ErrName, arrival(name, 0, 0, 0, 0))
		add(api.ErrName, arrival(name, -1, 5, 4, 101))
	}
	for _, x := range beyond(0, 3) {
		add(api.ErrRange, arrival("x", x, 0, 0, 0))
		add(api.ErrRange, arrival("x", x, 1, 0, 0))
	}
	for _, x := range beyond(0, 100000) {
		add(api.ErrRange, arrival("x", 0, x, 100000, 0))
		add(api.ErrRange, arrival("x", 0, 0, x, 0))
		add(api.ErrRange, arrival("x", 0, x, x, 0))
	}
	for _, x := range beyond(0, 100) {
		add(api.ErrRange, arrival("x", 0, 0, 0, x))
		add(api.ErrRange, arrival("x", 3, 1, 0, x))
	}
	for _, x := range []api.SpacingArrival{arrival("x", 0, 1, 0, 0), arrival("x", 3, 100000, 99999, 100), arrival("x", 0, 100000, 0, 0)} {
		add(api.ErrOrder, x)
	}
	for _, x := range []api.SpacingArrival{full[1], arrival("b", 0, 5, 6, 7), arrival("b", -1, 5, 4, 101)} {
		l = append(l, bad[list]{append(slices.Clone(full[:5]), x), 5, api.ErrExists}, bad[list]{list{full[0], full[1], x}, 2, api.ErrExists})
	}
	return l
}

func badProblems() []bad[api.SpacingProblem] {
	var l []bad[api.SpacingProblem]
	for _, x := range badRules() {
		l = append(l,
			bad[api.SpacingProblem]{api.SpacingProblem{Rule: x.value}, x.index, x.want},
			bad[api.SpacingProblem]{api.SpacingProblem{Rule: x.value, Arrivals: p().Arrivals}, x.index, x.want},
			bad[api.SpacingProblem]{api.SpacingProblem{Rule: x.value, Arrivals: make([]api.SpacingArrival, 7), Free: []int{-1}}, x.index, x.want},
		)
	}
	for _, x := range badArrivals() {
		l = append(l,
			bad[api.SpacingProblem]{api.SpacingProblem{Rule: (&draws{1}).rule(4, 600), Arrivals: x.value}, x.index, x.want},
			bad[api.SpacingProblem]{api.SpacingProblem{Rule: r(), Arrivals: x.value, Free: []int{9}}, x.index, x.want},
		)
	}
	for _, x := range [][]api.SpacingArrival{
		{arrival("a", 0, 0, 0, 0), arrival("b", 1, 0, 0, 0), arrival("c", 2, 0, 0, 0)},
		{arrival("a", 1, 0, 0, 0), arrival("b", 0, 0, 0, 0), arrival("c", 3, 0, 0, 0), arrival("d", 2, 0, 0, 0)},
	} {
		l = append(l, bad[api.SpacingProblem]{api.SpacingProblem{Rule: r(), Arrivals: x}, 2, api.ErrMissing}, bad[api.SpacingProblem]{api.SpacingProblem{Rule: r(), Arrivals: x, Free: []int{9}}, 2, api.ErrMissing})
	}
	for _, x := range []bad[[]int]{
		{[]int{3}, 0, api.ErrMissing}, {[]int{-1}, 0, api.ErrMissing}, {[]int{0, 1, 2, 3}, 3, api.ErrMissing}, {[]int{1, -1}, 1, api.ErrMissing},
		{[]int{math.MaxInt}, 0, api.ErrMissing}, {[]int{math.MinInt}, 0, api.ErrMissing}, {[]int{2, 1 << 32}, 1, api.ErrMissing},
		{[]int{0, 0}, 1, api.ErrOrder}, {[]int{2, 1}, 1, api.ErrOrder}, {[]int{0, 2, 1, 3}, 2, api.ErrOrder}, {[]int{0, 1, 2, 0}, 3, api.ErrOrder}, {[]int{1, 1, 9}, 1, api.ErrOrder},
	} {
		l = append(l, bad[api.SpacingProblem]{withFree(p(), x.value...), x.index, x.want})
	}
	return append(l, bad[api.SpacingProblem]{api.SpacingProblem{Rule: r(), Free: []int{0}}, 0, api.ErrMissing})
}

// badPlaces are orders of the arrivals of the examples in which one is missing or double.
func badPlaces() []bad[[]int] {
	l := []bad[[]int]{
		{[]int{0, 0}, 1, api.ErrDouble}, {[]int{0, 1, 0}, 2, api.ErrDouble}, {[]int{2, 1, 0, 1}, 3, api.ErrDouble}, {[]int{0, 0, 9}, 1, api.ErrDouble},
		{[]int{0, 9, 0}, 1, api.ErrMissing}, {[]int{9, 9}, 0, api.ErrMissing}, {[]int{0, 1, 2, 3}, 3, api.ErrMissing}, {make([]int, 1000), 1, api.ErrDouble},
	}
	for _, x := range beyond(0, 2) {
		l = append(l, bad[[]int]{[]int{x}, 0, api.ErrMissing}, bad[[]int]{[]int{2, 1, x}, 2, api.ErrMissing})
	}
	return l
}

// badSlots are slots of the problem of the examples, of which the plan begins with the index that
// keeps the rules.
func badSlots() []bad[[]api.SpacingSlot] {
	type plan = []api.SpacingSlot
	var l []bad[plan]
	for _, x := range badPlaces() {
		// Each is long after the others; of the last one the time is wrong, too.
		var fits, wrong plan
		for i, arrival := range x.value {
			fits, wrong = append(fits, slot(arrival, min(1000, 300+200*i))), append(wrong, slot(arrival, min(1000, 300+200*i)))
		}
		wrong[x.index].Time = -5
		l = append(l, bad[plan]{fits, x.index, x.want}, bad[plan]{wrong, x.index, x.want})
	}
	for _, x := range beyond(10, 1000) {
		l = append(l, bad[plan]{slots(1, x), 0, api.ErrRange}, bad[plan]{slots(0, 500, 1, x), 1, api.ErrRange}, bad[plan]{slots(1, x, 1, 500), 0, api.ErrRange})
	}
	return append(l,
		bad[plan]{slots(2, 19), 0, api.ErrRange},
		bad[plan]{slots(0, 1000, 1, 1001), 1, api.ErrRange},
		bad[plan]{slots(0, 0, 1, 119), 1, api.ErrBreak},
		bad[plan]{slots(0, 0, 2, 89), 1, api.ErrBreak},
		bad[plan]{slots(1, 10, 0, 69), 1, api.ErrBreak},
		bad[plan]{slots(1, 10, 0, 0), 1, api.ErrBreak},
		bad[plan]{slots(1, 10, 0, 69, 7, 0), 1, api.ErrBreak},
		bad[plan]{slots(0, 0, 1, 120, 2, 179), 2, api.ErrBreak},
		bad[plan]{slots(2, 20, 1, 140, 0, 199), 2, api.ErrBreak},
	)
}

// same is for slices, of which nil and empty ones are the same.
func same[T any](a, b []T) bool {
	return len(a) == 0 && len(b) == 0 || reflect.DeepEqual(a, b)
}

func expect(t *testing.T, what string, got, want api.Errno) {
	t.Helper()
	if got != want {
		t.Errorf("%s: error %d, want %d", what, got, want)
	}
}

// expectOnly is for results with an error, which are zero.
func expectOnly(t *testing.T, what string, result any, got, want api.Errno) {
	t.Helper()
	expect(t, what, got, want)
	v := reflect.ValueOf(result)
	if v.Kind() == reflect.Slice && v.Len() == 0 {
		return
	}
	if !v.IsZero() {
		t.Errorf("%s: %v together with an error", what, result)
	}
}
