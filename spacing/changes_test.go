package spacing_test

import (
	"math"
	"reflect"
	"slices"
	"testing"

	"glidepath/api"
	"glidepath/spacing"
)

// mostBy looks at all sets of arrivals with all of their orders.
func mostBy(p api.SpacingProblem, time int) []int {
	var most []int
	for subset := range 1 << len(p.Arrivals) {
		var set []int
		for i := range p.Arrivals {
			if subset>>i&1 == 1 {
				set = append(set, i)
			}
		}
		isFirst := len(set) > len(most) || len(set) == len(most) && slices.Compare(set, most) < 0
		if isFirst && isDoneBy(p, set, time) {
			most = set
		}
	}
	return most
}

func isDoneBy(p api.SpacingProblem, set []int, time int) bool {
	isDone := false
	permuted(set, func(order []int) {
		plan, ok := timed(p, nil, order)
		isLate := func(x api.SpacingSlot) bool { return x.Time > time }
		isDone = isDone || ok && !slices.ContainsFunc(plan, isLate)
	})
	return isDone
}

// somePlan is a plan of some arrivals that keeps the rules, and is often later than it must be.
func (d *draws) somePlan(p api.SpacingProblem) []api.SpacingSlot {
	var plan []api.SpacingSlot
	for _, i := range d.order(len(p.Arrivals)) {
		longer, ok := timed(p, plan, []int{i})
		if !ok {
			continue
		}
		last := &longer[len(plan)]
		last.Time += d.from(0, 1) * d.from(0, p.Arrivals[i].Latest-last.Time)
		plan = longer
	}
	return plan
}

// P7.6, example 6, edge cases
func TestFixedByExamples(t *testing.T) {
	best := slots(1, 10, 2, 70, 0, 160)
	for _, c := range []struct {
		plan  []api.SpacingSlot
		until int
		want  []api.SpacingSlot
	}{
		{best, 100, best[:2]}, {best, 70, best[:2]}, {best, 69, best[:1]}, {best, 10, best[:1]}, {best, 159, best[:2]}, {best, 160, best}, {best, 100000, best},
		// Before the first slot nothing is fixed.
		{best, 9, nil}, {best, 0, nil}, {nil, 100000, nil}, {nil, 0, nil},
		// The plan need not be whole.
		{slots(2, 500), 500, slots(2, 500)}, {slots(2, 500), 499, nil}, {slots(0, 0, 1, 120), 0, slots(0, 0)},
	} {
		if got, e := spacing.FixedBy(p(), c.plan, c.until); !same(got, c.want) || e != api.OK {
			t.Errorf("%v, %d: %v, %d, want %v", c.plan, c.until, got, e, c.want)
		}
	}
	// Several slots at one time.
	x := single(0, arrival("a", 0, 0, 9, 1), arrival("b", 0, 0, 9, 1), arrival("c", 0, 0, 9, 1))
	if got, e := spacing.FixedBy(x, slots(2, 4, 0, 4, 1, 5), 4); !same(got, slots(2, 4, 0, 4)) || e != api.OK {
		t.Errorf("%v, %d", got, e)
	}
}

// P7.6
func TestFixedByErrors(t *testing.T) {
	for _, x := range badSlots() {
		for _, until := range []int{0, 100, -1} {
			got, e := spacing.FixedBy(p(), x.value, until)
			expectOnly(t, "slots", got, e, x.want)
		}
	}
	for _, until := range beyond(0, 100000) {
		for _, plan := range [][]api.SpacingSlot{nil, slots(1, 10, 2, 70, 0, 160)} {
			got, e := spacing.FixedBy(p(), plan, until)
			expectOnly(t, "until", got, e, api.ErrRange)
		}
	}
}

// P7.6, example 6, edge cases
func TestReplannedExamples(t *testing.T) {
	for _, c := range []struct {
		problem api.SpacingProblem
		fixed   []api.SpacingSlot
		plan    []api.SpacingSlot
		cost    int
	}{
		{p(), slots(0, 5), slots(0, 5, 2, 95, 1, 215), 360},
		{p(), nil, slots(1, 10, 2, 70, 0, 160), 260},
		{p(), slots(1, 10), slots(1, 10, 2, 70, 0, 160), 260},
		// A fixed slot may be later than the smallest possible time.
		{p(), slots(1, 500, 0, 700), slots(1, 500, 0, 700, 2, 790), 490 + 700 + 1540},
		{p(), slots(1, 10, 2, 70, 0, 1000), slots(1, 10, 2, 70, 0, 1000), 1100},
		{withFree(p(), 0), slots(0, 0), slots(0, 0, 2, 60, 1, 180), 80 + 170},
		{api.SpacingProblem{Rule: r()}, nil, nil, 0},
		// Of several the first order.
		{single(5, arrival("a", 0, 0, 99, 1), arrival("b", 0, 0, 99, 1), arrival("c", 0, 0, 99, 1)), slots(1, 0), slots(1, 0, 0, 5, 2, 10), 15},
	} {
		if plan, cost, e := spacing.Replanned(c.problem, c.fixed); !same(plan, c.plan) || cost != c.cost || e != api.OK {
			t.Errorf("%v, %v: %v, %d, %d, want %v, %d", c.problem, c.fixed, plan, cost, e, c.plan, c.cost)
		}
	}
}

// P7.6
func TestReplannedErrors(t *testing.T) {
	for _, x := range badSlots() {
		plan, cost, e := spacing.Replanned(p(), x.value)
		expectOnly(t, "plan", plan, e, x.want)
		expectOnly(t, "cost", cost, e, x.want)
	}
	for _, fixed := range [][]api.SpacingSlot{slots(0, 881), slots(1, 941), slots(2, 1000), slots(1, 10, 2, 911)} {
		plan, cost, e := spacing.Replanned(p(), fixed)
		expectOnly(t, "plan", plan, e, api.ErrNone)
		expectOnly(t, "cost", cost, e, api.ErrNone)
	}
}

// P7.6, P7.10
func TestReplanned(t *testing.T) {
	draw := &draws{88}
	check := func(x api.SpacingProblem, fixed, want []api.SpacingSlot, least int, ok bool) {
		t.Helper()
		plan, cost, e := spacing.Replanned(x, fixed)
		if !ok {
			expectOnly(t, "no plan", plan, e, api.ErrNone)
			expectOnly(t, "no cost", cost, e, api.ErrNone)
			return
		}
		if !same(plan, want) || cost != least || e != api.OK {
			t.Fatalf("%v, %v: %v, %d, %d, want %v, %d", x, fixed, plan, cost, e, want, least)
		}
		if got, e := spacing.CheckPlan(x, plan); got != cost || e != api.OK || !same(plan[:len(fixed)], fixed) {
			t.Fatalf("%v, %v: %v, %d, %d", x, fixed, plan, got, e)
		}
	}
	for _, x := range tinyProblems(89, 300) {
		fixed := draw.somePlan(x)
		want, least, ok := bestOf(x, fixed)
		check(x, fixed, want, least, ok)
	}
	for _, x := range problems(90, 300) {
		fixed := draw.somePlan(x)
		want, least, ok := bestTimed(x, fixed)
		check(x, fixed, want, least, ok)
	}
}

// P7.6, P7.10
func TestFixedAndReplanned(t *testing.T) {
	draw := &draws{91}
	whole := 0
	for _, x := range problems(92, 2000) {
		plan := draw.somePlan(x)
		until := draw.from(0, 3000)
		fixed, e := spacing.FixedBy(x, plan, until)
		var want []api.SpacingSlot
		for i, y := range plan {
			if y.Time <= until {
				want = plan[:i+1]
			}
		}
		if !same(fixed, want) || e != api.OK {
			t.Fatalf("%v, %v, %d: %v, %d", x, plan, until, fixed, e)
		}
		cost, e := spacing.CheckPlan(x, plan)
		if e != api.OK {
			continue
		}
		whole++
		if again, less, e := spacing.Replanned(x, fixed); less > cost || e != api.OK || !same(again[:len(fixed)], fixed) {
			t.Fatalf("%v, %v, %v: %v, %d, %d, want at most %d", x, plan, fixed, again, less, e, cost)
		}
	}
	if whole < 50 {
		t.Errorf("%d plans were whole", whole)
	}
}

// P7.6, example 7
func TestGoneAroundExamples(t *testing.T) {
	for _, c := range []struct {
		problem          api.SpacingProblem
		around           api.SpacingAround
		earliest, latest int
		free             []int
	}{
		{p(), api.SpacingAround{Arrival: 0, Time: 160, Delay: 300}, 460, 1460, nil},
		{p(), api.SpacingAround{Arrival: 0, Time: 0, Delay: 1}, 1, 1001, nil},
		{p(), api.SpacingAround{Arrival: 1, Time: 1000, Delay: 3600}, 4600, 5590, nil},
		// The corridor behind it is no longer surely free.
		{withFree(p(), 0, 2), api.SpacingAround{Arrival: 2, Time: 20, Delay: 30}, 50, 1030, []int{0}},
		{withFree(p(), 0, 2), api.SpacingAround{Arrival: 0, Time: 20, Delay: 30}, 50, 1050, []int{2}},
		{withFree(p(), 0, 1, 2), api.SpacingAround{Arrival: 1, Time: 20, Delay: 30}, 50, 1040, []int{0, 2}},
		{withFree(p(), 0, 2), api.SpacingAround{Arrival: 1, Time: 20, Delay: 30}, 50, 1040, []int{0, 2}},
		{withFree(p(), 2), api.SpacingAround{Arrival: 2, Time: 20, Delay: 30}, 50, 1030, nil},
		// Its Latest may be MaxSpacingTime.
		{single(0, arrival("a", 0, 0, 99999, 1)), api.SpacingAround{Delay: 1}, 1, 100000, nil},
		{single(0, arrival("a", 0, 90000, 97000, 1)), api.SpacingAround{Time: 91000, Delay: 2000}, 93000, 100000, nil},
	} {
		want := copied(c.problem)
		want.Arrivals[c.around.Arrival].Earliest, want.Arrivals[c.around.Arrival].Latest, want.Free = c.earliest, c.latest, c.free
		got, e := spacing.GoneAround(c.problem, c.around)
		if !reflect.DeepEqual(got.Rule, want.Rule) || !same(got.Arrivals, want.Arrivals) || !same(got.Free, want.Free) || e != api.OK {
			t.Errorf("%v, %v: %v, %d, want %v", c.problem, c.around, got, e, want)
		}
	}
}

// P7.6
func TestGoneAroundErrors(t *testing.T) {
	check := func(want api.Errno, x api.SpacingProblem, arrival, time, delay int) {
		t.Helper()
		got, e := spacing.GoneAround(x, api.SpacingAround{Arrival: arrival, Time: time, Delay: delay})
		expectOnly(t, "around", got, e, want)
	}
	for _, x := range beyond(0, 2) {
		check(api.ErrMissing, p(), x, 100, 100)
		check(api.ErrMissing, p(), x, -1, 0)
	}
	check(api.ErrMissing, api.SpacingProblem{Rule: r()}, 0, 0, 1)
	for _, x := range beyond(10, 1000) {
		check(api.ErrRange, p(), 1, x, 1)
		check(api.ErrRange, p(), 1, x, 3601)
	}
	check(api.ErrRange, p(), 2, 19, 1)
	for _, x := range beyond(1, 3600) {
		check(api.ErrRange, p(), 0, 0, x)
		check(api.ErrRange, p(), 2, 1000, x)
	}
	late := single(0, arrival("a", 0, 0, 99999, 1), arrival("b", 0, 99000, 100000, 1))
	check(api.ErrBreak, late, 0, 0, 2)
	check(api.ErrBreak, late, 0, 1, 1)
	check(api.ErrBreak, late, 0, 99999, 3600)
	check(api.ErrBreak, late, 1, 99000, 1)
	check(api.ErrBreak, late, 1, 100000, 3600)
	check(api.ErrRange, late, 1, 100001, 3600)
	check(api.ErrRange, late, 1, 100000, 3601)
	check(api.ErrRange, late, 1, math.MaxInt, math.MaxInt)
}

// P7.6, P7.14
func TestGoneAround(t *testing.T) {
	draw := &draws{93}
	done := 0
	for _, x := range problems(94, 2000) {
		if len(x.Arrivals) == 0 {
			continue
		}
		i := draw.from(0, len(x.Arrivals)-1)
		a := x.Arrivals[i]
		around := api.SpacingAround{Arrival: i, Time: draw.from(a.Earliest, a.Latest), Delay: draw.from(1, []int{5, 3600}[i%2])}
		y, e := spacing.GoneAround(x, around)
		b := a
		b.Earliest = around.Time + around.Delay
		b.Latest += b.Earliest - a.Earliest
		free := slices.DeleteFunc(slices.Clone(x.Free), func(other int) bool { return other == i })
		want := slices.Clone(x.Arrivals)
		want[i] = b
		if !same(y.Arrivals, want) || !same(y.Free, free) || !reflect.DeepEqual(y.Rule, x.Rule) || e != api.OK {
			t.Fatalf("%v, %v: %v, %d", x, around, y, e)
		}
		if at, e := spacing.CheckProblem(y); at != 0 || e != api.OK {
			t.Fatalf("%v, %v: %d, %d", x, around, at, e)
		}
		// Plans in which it comes last, late enough, are as possible as before.
		if b.Earliest > a.Latest {
			continue
		}
		done++
		last := slot(i, draw.from(b.Earliest, a.Latest))
		plan := slices.DeleteFunc(draw.somePlan(x), func(other api.SpacingSlot) bool { return other.Arrival == i })
		plan = append(plan, last)
		_, before := spacing.FixedBy(x, plan, 0)
		if _, after := spacing.FixedBy(y, plan, 0); after != before {
			t.Fatalf("%v, %v, %v: %d, before %d", x, around, plan, after, before)
		}
	}
	if done < 200 {
		t.Errorf("%d plans were looked at", done)
	}
}

// P7.6, example 8, edge cases
func TestMostByExamples(t *testing.T) {
	free := single(0, arrival("a", 0, 5, 5, 1), arrival("b", 0, 5, 9, 1), arrival("c", 0, 6, 6, 1))
	for _, c := range []struct {
		problem api.SpacingProblem
		time    int
		want    []int
	}{
		{p(), 100, []int{0, 1}}, {p(), 160, []int{0, 1, 2}}, {p(), 159, []int{0, 1}}, {p(), 70, []int{0, 1}}, {p(), 69, []int{0}}, {p(), 0, []int{0}}, {p(), 100000, []int{0, 1, 2}},
		{free, 5, []int{0, 1}}, {free, 4, nil}, {free, 6, []int{0, 1, 2}},
		{api.SpacingProblem{Rule: r()}, 0, nil}, {api.SpacingProblem{Rule: r()}, 100000, nil},
		// Of several the first one; windows of one time exclude each other.
		{single(10, arrival("a", 0, 5, 5, 1), arrival("b", 0, 5, 5, 1), arrival("c", 0, 15, 15, 1)), 15, []int{0, 2}},
		{single(10, arrival("a", 0, 30, 30, 1), arrival("b", 0, 5, 5, 1), arrival("c", 0, 5, 5, 1)), 20, []int{1}},
		// Each time is at most its arrival's Latest, too.
		{single(10, arrival("a", 0, 0, 0, 1), arrival("b", 0, 0, 9, 1), arrival("c", 0, 0, 100, 1)), 100000, []int{0, 2}},
		{single(100, arrival("a", 0, 99950, 100000, 1), arrival("b", 0, 99900, 100000, 1)), 100000, []int{0, 1}},
	} {
		if got, e := spacing.MostBy(c.problem, c.time); !same(got, c.want) || e != api.OK {
			t.Errorf("%v, %d: %v, %d, want %v", c.problem, c.time, got, e, c.want)
		}
	}
	for _, time := range beyond(0, 100000) {
		for _, x := range []api.SpacingProblem{p(), {Rule: r()}} {
			got, e := spacing.MostBy(x, time)
			expectOnly(t, "time", got, e, api.ErrRange)
		}
	}
}

// P7.6
func TestMostBy(t *testing.T) {
	draw := &draws{95}
	var sizes [7]int
	for _, x := range problems(96, 280) {
		time := draw.from(0, 900)
		want := mostBy(x, time)
		if got, e := spacing.MostBy(x, time); !same(got, want) || e != api.OK {
			t.Fatalf("%v, %d: %v, %d, want %v", x, time, got, e, want)
		}
		sizes[len(want)]++
	}
	if sizes[0] == 0 || sizes[1] == 0 || sizes[3] == 0 || sizes[5] == 0 {
		t.Errorf("%v sets of each size", sizes)
	}
}

// R3: results share no memory with arguments or with each other, R4
func TestResultsMemory(t *testing.T) {
	x, plan := withFree(p(), 0, 2), slots(1, 10, 2, 70, 0, 160)
	around := api.SpacingAround{Arrival: 0, Time: 160, Delay: 300}
	kept := copied(x)
	after, _ := spacing.GoneAround(x, around)
	for _, rows := range [][][]int{after.Rule.Seconds, after.Rule.Free} {
		for _, row := range rows {
			row[0], row[1] = -1, -1
		}
		rows[1] = nil
	}
	after.Arrivals[1].Name, after.Free[0] = "x", 9
	fixed, _ := spacing.FixedBy(x, plan, 1000)
	fixed[0] = slot(9, 9)
	again, _, _ := spacing.Replanned(x, plan[:2])
	again[0] = slot(8, 8)
	whole, _, _ := spacing.Replanned(x, plan)
	whole[1] = slot(7, 7)
	if !reflect.DeepEqual(x, kept) || !same(plan, slots(1, 10, 2, 70, 0, 160)) {
		t.Errorf("%v, %v", x, plan)
	}
	second, e := spacing.GoneAround(x, around)
	if !reflect.DeepEqual(second.Rule, r()) || second.Arrivals[1].Name != "b" || !same(second.Free, []int{2}) || e != api.OK {
		t.Errorf("%v, %d", second, e)
	}
	// What follows a part of a longer plan stays.
	long := slots(1, 10, 2, 70, 9, 9)
	spacing.Replanned(x, long[:2])
	spacing.FixedBy(x, long[:2], 500)
	if !same(long, slots(1, 10, 2, 70, 9, 9)) {
		t.Errorf("%v", long)
	}
}
