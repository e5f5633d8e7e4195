package spacing_test

import (
	"math"
	"slices"
	"testing"

	"glidepath/api"
	"glidepath/spacing"
)

// eachPlan calls with every whole plan of some orders that keeps the rules, whatever its times.
func eachPlan(p api.SpacingProblem, call func(plan []api.SpacingSlot)) {
	permuted(indexes(len(p.Arrivals)), func(order []int) {
		var grow func(plan []api.SpacingSlot)
		grow = func(plan []api.SpacingSlot) {
			if len(plan) == len(order) {
				call(plan)
				return
			}
			x := order[len(plan)]
			for time := p.Arrivals[x].Earliest; time <= p.Arrivals[x].Latest; time++ {
				if longer := append(slices.Clone(plan), slot(x, time)); keepsRules(p, longer) {
					grow(longer)
				}
			}
		}
		grow(nil)
	})
}

// bestOf looks at every whole plan that begins with fixed slots and keeps the rules.
func bestOf(p api.SpacingProblem, fixed []api.SpacingSlot) ([]api.SpacingSlot, int, bool) {
	var best []api.SpacingSlot
	least := math.MaxInt
	eachPlan(p, func(plan []api.SpacingSlot) {
		if cost := costOf(p, plan); slices.Equal(plan[:len(fixed)], fixed) && cost < least {
			best, least = plan, cost
		}
	})
	return best, least, least < math.MaxInt
}

// bestTimed looks at the smallest times of all orders.
func bestTimed(p api.SpacingProblem, fixed []api.SpacingSlot) ([]api.SpacingSlot, int, bool) {
	further := slices.DeleteFunc(indexes(len(p.Arrivals)), func(arrival int) bool {
		return slices.ContainsFunc(fixed, func(x api.SpacingSlot) bool { return x.Arrival == arrival })
	})
	var best []api.SpacingSlot
	least := math.MaxInt
	permuted(further, func(order []int) {
		plan, ok := timed(p, fixed, order)
		if ok && costOf(p, plan) < least {
			best, least = plan, costOf(p, plan)
		}
	})
	return best, least, least < math.MaxInt
}

// tinyProblems are so small that all times can be looked at.
func tinyProblems(seed uint64, count int) []api.SpacingProblem {
	draw := &draws{seed}
	var l []api.SpacingProblem
	for i := range count {
		x := draw.problem(i%4, 4, 1+i%3)
		// Arrivals that cost nothing could be at any time.
		for j := range x.Arrivals {
			x.Arrivals[j].Cost = max(1, x.Arrivals[j].Cost)
		}
		l = append(l, x)
	}
	return l
}

func timesOf(plan []api.SpacingSlot) []int {
	var l []int
	for _, x := range plan {
		l = append(l, x.Time)
	}
	return l
}

// P7.3, examples 1, 2 and 5, edge cases
func TestTimesOfExamples(t *testing.T) {
	third := single(0, arrival("a", 0, 5, 9, 1), arrival("b", 0, 5, 5, 3), arrival("c", 0, 5, 5, 2))
	// The separation from the first one is longer than those of its followers.
	far := api.SpacingProblem{
		Rule:     api.SpacingRule{Seconds: [][]int{{9, 1, 9}, {1, 1, 1}, {1, 1, 1}}, Free: [][]int{{0, 0, 0}, {0, 0, 0}, {0, 0, 0}}},
		Arrivals: []api.SpacingArrival{arrival("a", 0, 0, 99, 1), arrival("b", 1, 0, 99, 1), arrival("c", 2, 0, 99, 10)},
	}
	for _, c := range []struct {
		problem api.SpacingProblem
		order   []int
		times   []int
		cost    int
	}{
		{p(), []int{0, 1, 2}, []int{0, 120, 180}, 430},
		{p(), []int{0, 2, 1}, []int{0, 90, 210}, 340},
		{p(), []int{1, 2, 0}, []int{10, 70, 160}, 260},
		{p(), []int{1, 0, 2}, []int{10, 70, 160}, 350},
		{p(), []int{2, 0, 1}, []int{20, 110, 230}, 330},
		{p(), []int{2, 1, 0}, []int{20, 140, 200}, 330},
		{withFree(p(), 2), []int{2, 1, 0}, []int{20, 100, 160}, 250},
		{withFree(p(), 2), []int{1, 2, 0}, []int{10, 70, 130}, 230},
		// Not all arrivals must be there.
		{p(), nil, nil, 0}, {p(), []int{2}, []int{20}, 0}, {p(), []int{2, 0}, []int{20, 110}, 110},
		{api.SpacingProblem{Rule: r()}, nil, nil, 0},
		// Separations of 0 permit the same time twice, and windows of one time.
		{third, []int{0, 1, 2}, []int{5, 5, 5}, 0}, {third, []int{2, 1, 0}, []int{5, 5, 5}, 0},
		// The separation counts from every earlier arrival.
		{far, []int{0, 1, 2}, []int{0, 1, 9}, 91},
		{withFree(far, 0), []int{0, 1, 2}, []int{0, 0, 1}, 10},
	} {
		if times, e := spacing.TimesOf(c.problem, c.order); !same(times, c.times) || e != api.OK {
			t.Errorf("%v, %v: %v, %d, want %v", c.problem, c.order, times, e, c.times)
		}
		if cost, e := spacing.CostOf(c.problem, c.order); cost != c.cost || e != api.OK {
			t.Errorf("%v, %v: %d, %d, want %d", c.problem, c.order, cost, e, c.cost)
		}
	}
}

// P7.3, P7.8
func TestTimesOf(t *testing.T) {
	draw := &draws{76}
	possible := 0
	for _, x := range problems(77, 900) {
		order := draw.order(len(x.Arrivals))
		plan, ok := timed(x, nil, order)
		times, e := spacing.TimesOf(x, order)
		cost, other := spacing.CostOf(x, order)
		if !ok {
			expectOnly(t, "TimesOf", times, e, api.ErrBreak)
			expectOnly(t, "CostOf", cost, other, api.ErrBreak)
			continue
		}
		possible++
		if !same(times, timesOf(plan)) || e != api.OK {
			t.Fatalf("%v, %v: %v, %d, want %v", x, order, times, e, plan)
		}
		if cost != costOf(x, plan) || other != api.OK {
			t.Fatalf("%v, %v: %d, %d, want %d", x, order, cost, other, costOf(x, plan))
		}
	}
	if possible < 200 || possible > 800 {
		t.Errorf("%d orders are possible", possible)
	}
}

// P7.8
func TestNoSmallerTimes(t *testing.T) {
	for _, x := range tinyProblems(78, 60) {
		seen := 0
		eachPlan(x, func(plan []api.SpacingSlot) {
			var order []int
			for _, y := range plan {
				order = append(order, y.Arrival)
			}
			times, e := spacing.TimesOf(x, order)
			for i := range times {
				if times[i] > plan[i].Time {
					e = api.ErrOrder
				}
			}
			if len(times) != len(plan) || e != api.OK {
				t.Fatalf("%v, %v: %v, %d", x, plan, times, e)
			}
			seen++
		})
		permuted(indexes(len(x.Arrivals)), func(order []int) {
			times, e := spacing.TimesOf(x, order)
			if e != api.OK {
				return
			}
			var plan []api.SpacingSlot
			for i, y := range order {
				plan = append(plan, slot(y, times[i]))
			}
			cost, _ := spacing.CostOf(x, order)
			if got, e := spacing.CheckPlan(x, plan); got != cost || e != api.OK || seen == 0 {
				t.Fatalf("%v, %v: %d, %d, want %d", x, plan, got, e, cost)
			}
		})
	}
}

// P7.3
func TestOrderErrors(t *testing.T) {
	check := func(x api.SpacingProblem, order []int, want api.Errno) {
		t.Helper()
		times, e := spacing.TimesOf(x, order)
		expectOnly(t, "TimesOf", times, e, want)
		cost, e := spacing.CostOf(x, order)
		expectOnly(t, "CostOf", cost, e, want)
	}
	narrow := p()
	narrow.Arrivals[1].Latest = 119
	for _, x := range badPlaces() {
		check(p(), x.value, x.want)
		check(narrow, x.value, x.want)
	}
	// An order that is not possible is one with existing arrivals, each once.
	check(narrow, []int{0, 1}, api.ErrBreak)
	check(narrow, []int{2, 0, 1}, api.ErrBreak)
	check(narrow, []int{0, 1, 0}, api.ErrDouble)
	check(narrow, []int{0, 1, 3}, api.ErrMissing)
	check(api.SpacingProblem{Rule: r()}, []int{0}, api.ErrMissing)
	narrow.Arrivals[1].Latest = 120
	if times, e := spacing.TimesOf(narrow, []int{0, 1}); !same(times, []int{0, 120}) || e != api.OK {
		t.Errorf("%v, %d", times, e)
	}
	// A window of one time makes all orders but some impossible.
	x := single(10, arrival("a", 0, 0, 100, 1), arrival("b", 0, 5, 5, 1))
	check(x, []int{0, 1}, api.ErrBreak)
	if times, e := spacing.TimesOf(x, []int{1, 0}); !same(times, []int{5, 15}) || e != api.OK {
		t.Errorf("%v, %d", times, e)
	}
}

// P7.4
func TestCheckPlan(t *testing.T) {
	for _, c := range []struct {
		problem api.SpacingProblem
		plan    []api.SpacingSlot
		cost    int
	}{
		{p(), slots(1, 10, 2, 70, 0, 160), 260},
		{p(), slots(0, 5, 2, 95, 1, 215), 360},
		// Slots may be later than they must be.
		{p(), slots(1, 11, 2, 500, 0, 1000), 1 + 960 + 1000},
		{api.SpacingProblem{Rule: r()}, nil, 0},
		{single(600, arrival("a", 0, 7, 7, 9)), slots(0, 7), 0},
		{single(0, arrival("a", 0, 7, 9, 9), arrival("b", 0, 6, 8, 4)), slots(1, 8, 0, 8), 17},
		{single(600, arrival("a", 0, 0, 100000, 100), arrival("b", 0, 0, 100000, 100)), slots(1, 99400, 0, 100000), 19940000},
	} {
		if got, e := spacing.CheckPlan(c.problem, c.plan); got != c.cost || e != api.OK {
			t.Errorf("%v, %v: %d, %d, want %d", c.problem, c.plan, got, e, c.cost)
		}
	}
	accepted := 0
	draw := &draws{79}
	for _, x := range problems(80, 1500) {
		var plan []api.SpacingSlot
		time := 0
		for _, i := range draw.order(len(x.Arrivals)) {
			time = max(time, x.Arrivals[i].Earliest) + draw.from(0, 1)*draw.from(0, 60)
			plan = append(plan, slot(i, time))
		}
		got, e := spacing.CheckPlan(x, plan)
		if !keepsRules(x, plan) {
			if e != api.ErrRange && e != api.ErrBreak || got != 0 {
				t.Fatalf("%v, %v: %d, %d", x, plan, got, e)
			}
			continue
		}
		if len(plan) < len(x.Arrivals) {
			expectOnly(t, "part", got, e, api.ErrShape)
			continue
		}
		if got != costOf(x, plan) || e != api.OK {
			t.Fatalf("%v, %v: %d, %d", x, plan, got, e)
		}
		accepted++
	}
	if accepted < 50 {
		t.Errorf("%d plans accepted", accepted)
	}
}

// P7.4
func TestCheckPlanErrors(t *testing.T) {
	for _, x := range badSlots() {
		got, e := spacing.CheckPlan(p(), x.value)
		expectOnly(t, "slots", got, e, x.want)
	}
	for _, plan := range [][]api.SpacingSlot{nil, slots(0, 0), slots(1, 10, 2, 70)} {
		got, e := spacing.CheckPlan(p(), plan)
		expectOnly(t, "part", got, e, api.ErrShape)
	}
}

// P7.4, example 3
func TestMarginsOfExamples(t *testing.T) {
	for _, c := range []struct {
		problem api.SpacingProblem
		plan    []api.SpacingSlot
		want    []int
	}{
		{p(), slots(1, 10, 2, 70, 0, 160), []int{0, 0}},
		{p(), slots(1, 10, 2, 75, 0, 160), []int{5, -5}},
		{p(), slots(0, 0, 1, 121, 2, 400), []int{1, 219}},
		{withFree(p(), 2), slots(1, 10, 2, 70, 0, 160), []int{0, 30}},
		// The minimum is over all slots before, not only over the one before.
		{p(), slots(0, 100, 1, 100, 2, 200), []int{-120, 10}},
		// They may be below 0; slots need be neither in their windows nor ascend nor be whole.
		{p(), slots(0, 100000, 1, 0), []int{-100120}},
		{p(), slots(1, 0, 0, 100000), []int{99940}},
		{p(), slots(2, 0), nil},
		{p(), nil, nil},
		{single(0, arrival("a", 0, 5, 5, 1), arrival("b", 0, 5, 5, 1)), slots(1, 5, 0, 5), []int{0}},
		{api.SpacingProblem{Rule: r()}, nil, nil},
	} {
		if got, e := spacing.MarginsOf(c.problem, c.plan); !same(got, c.want) || e != api.OK {
			t.Errorf("%v, %v: %v, %d, want %v", c.problem, c.plan, got, e, c.want)
		}
	}
}

// P7.4, P7.12
func TestMarginsOf(t *testing.T) {
	draw := &draws{81}
	for _, x := range problems(82, 600) {
		var plan []api.SpacingSlot
		time := draw.from(0, 1000)
		for _, i := range draw.order(len(x.Arrivals)) {
			time = max(0, time+draw.from(-20, 300))
			plan = append(plan, slot(i, time))
		}
		var want []int
		isKept := true
		for i := range plan {
			least := math.MaxInt
			for _, leader := range plan[:i] {
				least = min(least, plan[i].Time-leader.Time-apart(x, leader.Arrival, plan[i].Arrival))
			}
			if i > 0 {
				want = append(want, least)
			}
			isKept = isKept && least >= 0
		}
		got, e := spacing.MarginsOf(x, plan)
		if !same(got, want) || e != api.OK {
			t.Fatalf("%v, %v: %v, %d, want %v", x, plan, got, e, want)
		}
		// None is below 0 if the plan keeps the rules in windows that are wide enough.
		wide := copied(x)
		for i := range wide.Arrivals {
			wide.Arrivals[i].Earliest, wide.Arrivals[i].Latest = 0, 100000
		}
		if keepsRules(wide, plan) != isKept {
			t.Fatalf("%v, %v: %v", x, plan, got)
		}
		moved := slices.Clone(plan)
		by := draw.from(0, 1000)
		for i := range moved {
			moved[i].Time += by
		}
		if got, e := spacing.MarginsOf(x, moved); !same(got, want) || e != api.OK {
			t.Fatalf("%v, %v: %v, %d, want %v", x, moved, got, e, want)
		}
	}
}

// P7.4
func TestMarginsOfErrors(t *testing.T) {
	for _, x := range badPlaces() {
		var fits, wrong []api.SpacingSlot
		for _, arrival := range x.value {
			fits, wrong = append(fits, slot(arrival, 5)), append(wrong, slot(arrival, 5))
		}
		wrong[x.index].Time = -1
		got, e := spacing.MarginsOf(p(), fits)
		expectOnly(t, "place", got, e, x.want)
		got, e = spacing.MarginsOf(p(), wrong)
		expectOnly(t, "place", got, e, x.want)
	}
	for _, x := range beyond(0, 100000) {
		for _, plan := range [][]api.SpacingSlot{slots(0, x), slots(0, 5, 1, x), slots(2, 5, 1, 5, 0, x), slots(0, x, 0, 5), slots(0, x, 9, 5)} {
			got, e := spacing.MarginsOf(p(), plan)
			expectOnly(t, "time", got, e, api.ErrRange)
		}
	}
	for _, plan := range [][]api.SpacingSlot{slots(0, 0, 1, 100000), slots(0, 100000, 1, 0)} {
		if got, e := spacing.MarginsOf(p(), plan); len(got) != 1 || e != api.OK {
			t.Errorf("%v: %v, %d", plan, got, e)
		}
	}
}

// P7.5, examples 2 and 5, edge cases
func TestBestPlanExamples(t *testing.T) {
	for _, c := range []struct {
		problem api.SpacingProblem
		plan    []api.SpacingSlot
		cost    int
	}{
		{p(), slots(1, 10, 2, 70, 0, 160), 260},
		{withFree(p(), 2), slots(1, 10, 2, 70, 0, 130), 230},
		{api.SpacingProblem{Rule: r()}, nil, 0},
		{single(600, arrival("a", 0, 7, 9, 5)), slots(0, 7), 0},
		// Of several the lexicographically first order.
		{single(5, arrival("a", 0, 0, 9, 1), arrival("b", 0, 0, 9, 1)), slots(0, 0, 1, 5), 5},
		{single(5, arrival("a", 0, 0, 9, 0), arrival("b", 0, 0, 9, 0)), slots(0, 0, 1, 5), 0},
		{single(0, arrival("a", 0, 9, 9, 1), arrival("b", 0, 0, 9, 1), arrival("c", 0, 0, 9, 1)), slots(1, 0, 2, 0, 0, 9), 0},
		// Arrivals that cost nothing wait, but no longer than they must.
		{single(5, arrival("a", 0, 0, 99, 0), arrival("b", 0, 1, 99, 1)), slots(1, 1, 0, 6), 0},
		// A window of one time.
		{single(10, arrival("a", 0, 0, 100, 1), arrival("b", 0, 5, 5, 1)), slots(1, 5, 0, 15), 15},
	} {
		if plan, cost, e := spacing.BestPlan(c.problem); !same(plan, c.plan) || cost != c.cost || e != api.OK {
			t.Errorf("%v: %v, %d, %d, want %v, %d", c.problem, plan, cost, e, c.plan, c.cost)
		}
	}
	for _, x := range []api.SpacingProblem{
		single(10, arrival("a", 0, 5, 5, 1), arrival("b", 0, 5, 5, 1)),
		single(1, arrival("a", 0, 0, 1, 1), arrival("b", 0, 0, 1, 1), arrival("c", 0, 0, 1, 1)),
	} {
		plan, cost, e := spacing.BestPlan(x)
		expectOnly(t, "no plan", plan, e, api.ErrNone)
		expectOnly(t, "no cost", cost, e, api.ErrNone)
	}
}

// P7.5, P7.9
func TestBestPlan(t *testing.T) {
	check := func(x api.SpacingProblem, want []api.SpacingSlot, least int, ok bool) {
		t.Helper()
		plan, cost, e := spacing.BestPlan(x)
		if !ok {
			expectOnly(t, "no plan", plan, e, api.ErrNone)
			expectOnly(t, "no cost", cost, e, api.ErrNone)
			return
		}
		if !same(plan, want) || cost != least || e != api.OK {
			t.Fatalf("%v: %v, %d, %d, want %v, %d", x, plan, cost, e, want, least)
		}
		if got, e := spacing.CheckPlan(x, plan); got != cost || e != api.OK {
			t.Fatalf("%v: %d, %d, want %d", x, got, e, cost)
		}
	}
	for _, x := range tinyProblems(83, 400) {
		want, least, ok := bestOf(x, nil)
		check(x, want, least, ok)
	}
	for _, x := range problems(84, 170) {
		want, least, ok := bestTimed(x, nil)
		check(x, want, least, ok)
	}
}

// P7.11
func TestLessWhereFree(t *testing.T) {
	draw := &draws{85}
	for _, x := range problems(86, 300) {
		further, greater := copied(x), copied(x)
		for i := range x.Arrivals {
			if slices.Contains(x.Free, i) || draw.from(0, 1) == 0 {
				continue
			}
			further.Free = append(further.Free, i)
		}
		slices.Sort(further.Free)
		for i := range greater.Rule.Seconds {
			for j := range greater.Rule.Seconds {
				greater.Rule.Seconds[i][j] = draw.from(greater.Rule.Seconds[i][j], 600)
				greater.Rule.Free[i][j] = draw.from(greater.Rule.Free[i][j], greater.Rule.Seconds[i][j])
			}
		}
		order := draw.order(len(x.Arrivals))
		if times, e := spacing.TimesOf(x, order); e == api.OK {
			smaller, e := spacing.TimesOf(further, order)
			for i := range smaller {
				if smaller[i] > times[i] {
					e = api.ErrOrder
				}
			}
			if len(smaller) != len(times) || e != api.OK {
				t.Fatalf("%v, %v: %v, %d, want at most %v", further, order, smaller, e, times)
			}
		}
		_, cost, e := spacing.BestPlan(x)
		if _, less, other := spacing.BestPlan(further); e == api.OK && (less > cost || other != api.OK) {
			t.Fatalf("%v: %d, %d, want at most %d", further, less, other, cost)
		}
		if _, more, other := spacing.BestPlan(greater); other == api.OK && (more < cost || e != api.OK) {
			t.Fatalf("%v: %d, want at least %d", greater, more, cost)
		}
	}
}
