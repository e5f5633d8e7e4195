package spacing_test

import (
	"reflect"
	"testing"

	"glidepath/api"
	"glidepath/spacing"
)

// P7.2
func TestCheckArrivals(t *testing.T) {
	for _, l := range [][]api.SpacingArrival{
		nil, {}, p().Arrivals,
		{arrival("a", 0, 0, 0, 0)},
		{arrival("a", 3, 100000, 100000, 100), arrival("A", 0, 0, 100000, 0), arrival("b", 0, 0, 0, 0), arrival("Z", 0, 0, 0, 0), arrival("z", 0, 0, 0, 0), arrival("B", 0, 0, 0, 0)},
		{arrival("abcdefghijkl", 0, 0, 0, 0), arrival("a-", 0, 0, 0, 0), arrival("a0", 0, 0, 0, 0), arrival("a9", 0, 0, 0, 0), arrival("zZ-aA09-", 0, 0, 0, 0)},
	} {
		if i, e := spacing.CheckArrivals(l); i != 0 || e != api.OK {
			t.Errorf("%v: %d, %d", l, i, e)
		}
	}
	for _, x := range badArrivals() {
		if i, e := spacing.CheckArrivals(x.value); i != x.index || e != x.want {
			t.Errorf("%v: %d, %d, want %d, %d", x.value, i, e, x.index, x.want)
		}
	}
}

// P7.2
func TestCheckProblem(t *testing.T) {
	good := append(problems(74, 300), p(), withFree(p(), 0, 1, 2), withFree(p(), 2), api.SpacingProblem{Rule: r()})
	for _, x := range good {
		if i, e := spacing.CheckProblem(x); i != 0 || e != api.OK {
			t.Errorf("%v: %d, %d", x, i, e)
		}
	}
	for _, x := range badProblems() {
		if i, e := spacing.CheckProblem(x.value); i != x.index || e != x.want {
			t.Errorf("%v: %d, %d, want %d, %d", x.value, i, e, x.index, x.want)
		}
	}
}

// P7.3, P7.4, P7.5, P7.6: the errors of the problem come first, whatever else is wrong.
func TestProblemErrors(t *testing.T) {
	for _, x := range badProblems() {
		for _, order := range [][]int{nil, {0}, {9, 9}} {
			times, e := spacing.TimesOf(x.value, order)
			expectOnly(t, "TimesOf", times, e, x.want)
			cost, e := spacing.CostOf(x.value, order)
			expectOnly(t, "CostOf", cost, e, x.want)
			many, e := spacing.MostBy(x.value, 7*len(order)-10)
			expectOnly(t, "MostBy", many, e, x.want)
		}
		for _, plan := range [][]api.SpacingSlot{nil, slots(0, 0), slots(9, 9), slots(0, -1, 0, -1)} {
			cost, e := spacing.CheckPlan(x.value, plan)
			expectOnly(t, "CheckPlan", cost, e, x.want)
			margins, e := spacing.MarginsOf(x.value, plan)
			expectOnly(t, "MarginsOf", margins, e, x.want)
			fixed, e := spacing.FixedBy(x.value, plan, len(plan)-1)
			expectOnly(t, "FixedBy", fixed, e, x.want)
			best, cost, e := spacing.Replanned(x.value, plan)
			expectOnly(t, "Replanned", best, e, x.want)
			expectOnly(t, "Replanned", cost, e, x.want)
		}
		for _, pairs := range [][][2]int{nil, {{0, 1}}, {{1, 0}}, {{9, 9}}} {
			bound, e := spacing.CheckPairs(x.value, pairs)
			expectOnly(t, "CheckPairs", bound, e, x.want)
		}
		best, cost, e := spacing.BestPlan(x.value)
		expectOnly(t, "BestPlan", best, e, x.want)
		expectOnly(t, "BestPlan", cost, e, x.want)
		pairs, bound, e := spacing.BestPairs(x.value)
		expectOnly(t, "BestPairs", pairs, e, x.want)
		expectOnly(t, "BestPairs", bound, e, x.want)
		for _, around := range []api.SpacingAround{{}, {Arrival: 0, Time: 0, Delay: 1}, {Arrival: -1}} {
			after, e := spacing.GoneAround(x.value, around)
			expectOnly(t, "GoneAround", after, e, x.want)
		}
	}
}

// R3: no argument is changed.
func TestProblemKept(t *testing.T) {
	for _, x := range problems(75, 60) {
		kept := copied(x)
		order, plan, pairs := []int{1, 0}, slots(1, 500, 0, 800), [][2]int{{0, 1}}
		spacing.CheckProblem(x)
		spacing.CheckArrivals(x.Arrivals)
		spacing.TimesOf(x, order)
		spacing.CostOf(x, order)
		spacing.CheckPlan(x, plan)
		spacing.MarginsOf(x, plan)
		spacing.BestPlan(x)
		spacing.CheckPairs(x, pairs)
		spacing.BestPairs(x)
		spacing.FixedBy(x, plan, 600)
		spacing.Replanned(x, plan)
		for i := range x.Arrivals {
			spacing.GoneAround(x, api.SpacingAround{Arrival: i, Time: x.Arrivals[i].Earliest, Delay: 5})
		}
		spacing.MostBy(x, 600)
		spacing.FormatRule(x.Rule)
		spacing.FormatArrivals(x.Arrivals)
		spacing.FormatPlan(plan)
		if !reflect.DeepEqual(x, kept) || !same(order, []int{1, 0}) || !same(plan, slots(1, 500, 0, 800)) || !same(pairs, [][2]int{{0, 1}}) {
			t.Fatalf("%v, %v, %v, %v changed from %v", x, order, plan, pairs, kept)
		}
	}
}
