package spacing_test

import (
	"math"
	"slices"
	"testing"

	"glidepath/api"
	"glidepath/spacing"
)

// boundOf is the smaller one of the costs of both orders of two arrivals alone.
func boundOf(p api.SpacingProblem, i, j int) (int, bool) {
	least := math.MaxInt
	for _, order := range [][]int{{i, j}, {j, i}} {
		if plan, ok := timed(p, nil, order); ok {
			least = min(least, costOf(p, plan))
		}
	}
	return least, least < math.MaxInt
}

// allPairings are all lists of pairs of so many arrivals, none of them in two pairs.
func allPairings(count int) [][][2]int {
	var pairs [][2]int
	for i := range count {
		for j := range i {
			pairs = append(pairs, [2]int{j, i})
		}
	}
	var all [][][2]int
	for subset := range 1 << len(pairs) {
		var l [][2]int
		times := make([]int, count)
		for i, x := range pairs {
			if subset>>i&1 == 1 {
				l = append(l, x)
				times[x[0]]++
				times[x[1]]++
			}
		}
		if count == 0 || slices.Max(times) <= 1 {
			slices.SortFunc(l, comparePairs)
			all = append(all, l)
		}
	}
	slices.SortFunc(all, func(a, b [][2]int) int { return slices.CompareFunc(a, b, comparePairs) })
	return all
}

func comparePairs(a, b [2]int) int { return slices.Compare(a[:], b[:]) }

// P7.5, example 4, edge cases
func TestCheckPairsExamples(t *testing.T) {
	six := single(10)
	for _, name := range []string{"a", "b", "c", "d", "e", "f"} {
		six.Arrivals = append(six.Arrivals, arrival(name, 0, 0, 100, 1+len(six.Arrivals)))
	}
	for _, c := range []struct {
		problem api.SpacingProblem
		pairs   [][2]int
		want    int
	}{
		{p(), nil, 0}, {p(), [][2]int{{0, 1}}, 70}, {p(), [][2]int{{0, 2}}, 110}, {p(), [][2]int{{1, 2}}, 100},
		{withFree(p(), 2), [][2]int{{0, 2}}, 80},
		{api.SpacingProblem{Rule: r()}, nil, 0},
		{six, [][2]int{{0, 5}, {1, 4}, {2, 3}}, 10 + 20 + 30}, {six, [][2]int{{0, 5}, {2, 3}}, 40}, {six, [][2]int{{2, 5}, {3, 4}}, 70},
		// Only one order is possible, which costs more than the other one would.
		{single(10, arrival("a", 0, 0, 9, 1), arrival("b", 0, 0, 99, 50)), [][2]int{{0, 1}}, 500},
		{single(10, arrival("a", 0, 0, 99, 50), arrival("b", 0, 0, 9, 1)), [][2]int{{0, 1}}, 500},
	} {
		if got, e := spacing.CheckPairs(c.problem, c.pairs); got != c.want || e != api.OK {
			t.Errorf("%v, %v: %d, %d, want %d", c.problem, c.pairs, got, e, c.want)
		}
	}
}

// P7.5
func TestCheckPairsErrors(t *testing.T) {
	four := p()
	// Neither order of c and d is possible, and neither one of a and d.
	four.Arrivals[0].Latest, four.Arrivals[2].Latest = 0, 20
	four.Arrivals = append(four.Arrivals, arrival("d", 1, 10, 60, 1))
	check := func(want api.Errno, pairs ...[2]int) {
		t.Helper()
		got, e := spacing.CheckPairs(four, pairs)
		expectOnly(t, "pairs", got, e, want)
	}
	for _, x := range beyond(0, 3) {
		check(api.ErrMissing, [2]int{x, 1})
		check(api.ErrMissing, [2]int{1, x})
		check(api.ErrMissing, [2]int{x, x})
		check(api.ErrMissing, [2]int{0, 1}, [2]int{x, 3})
		check(api.ErrMissing, [2]int{0, 1}, [2]int{0, x})
		check(api.ErrMissing, [2]int{2, 3}, [2]int{0, x})
		check(api.ErrOrder, [2]int{1, 0}, [2]int{0, x})
	}
	check(api.ErrOrder, [2]int{0, 0})
	check(api.ErrOrder, [2]int{3, 2})
	check(api.ErrOrder, [2]int{0, 1}, [2]int{3, 2})
	check(api.ErrOrder, [2]int{2, 3}, [2]int{0, 1})
	check(api.ErrOrder, [2]int{0, 1}, [2]int{0, 1})
	check(api.ErrOrder, [2]int{0, 1}, [2]int{0, 2})
	check(api.ErrOrder, [2]int{1, 2}, [2]int{0, 2})
	check(api.ErrOrder, [2]int{0, 1}, [2]int{1, 1})
	check(api.ErrDouble, [2]int{0, 1}, [2]int{1, 2})
	check(api.ErrDouble, [2]int{0, 2}, [2]int{1, 2})
	check(api.ErrDouble, [2]int{0, 3}, [2]int{1, 3})
	check(api.ErrDouble, [2]int{0, 2}, [2]int{2, 3})
	check(api.ErrDouble, [2]int{0, 3}, [2]int{1, 2}, [2]int{2, 3})
	check(api.ErrDouble, [2]int{0, 1}, [2]int{1, 2}, [2]int{1, 9})
	// What pairs can be comes before whether they are possible.
	check(api.ErrNone, [2]int{2, 3})
	check(api.ErrNone, [2]int{0, 3})
	check(api.ErrNone, [2]int{0, 1}, [2]int{2, 3})
	check(api.ErrNone, [2]int{0, 3}, [2]int{1, 2})
	check(api.ErrDouble, [2]int{0, 3}, [2]int{1, 3})
	check(api.ErrMissing, [2]int{0, 3}, [2]int{1, 4})
	check(api.ErrOrder, [2]int{2, 3}, [2]int{1, 2})
	// The arrivals of other pairs do not matter.
	if got, e := spacing.CheckPairs(four, [][2]int{{0, 1}}); got != 110 || e != api.OK {
		t.Errorf("%d, %d, want 110", got, e)
	}
	got, e := spacing.CheckPairs(api.SpacingProblem{Rule: r()}, [][2]int{{0, 1}})
	expectOnly(t, "no arrivals", got, e, api.ErrMissing)
}

// P7.5, example 4, edge cases
func TestBestPairsExamples(t *testing.T) {
	nothing := func(count int) api.SpacingProblem {
		x := single(0)
		for i := range count {
			x.Arrivals = append(x.Arrivals, arrival(string(rune('a'+i)), 0, 0, 9, 1))
		}
		return x
	}
	equal := single(10)
	for _, name := range []string{"a", "b", "c", "d", "e"} {
		equal.Arrivals = append(equal.Arrivals, arrival(name, 0, 0, 100, 1))
	}
	// Only the pair of b and d costs something, but that of a and c comes before it.
	two := single(10, arrival("a", 0, 0, 0, 1), arrival("b", 0, 50, 99, 1), arrival("c", 0, 20, 20, 1), arrival("d", 0, 50, 99, 1))
	for _, c := range []struct {
		problem api.SpacingProblem
		pairs   [][2]int
		want    int
	}{
		{p(), [][2]int{{0, 2}}, 110},
		{api.SpacingProblem{Rule: r()}, nil, 0},
		{single(600, arrival("a", 0, 7, 9, 5)), nil, 0},
		// A list that ends comes before a longer one.
		{nothing(2), nil, 0}, {nothing(6), nil, 0},
		{two, [][2]int{{0, 2}, {1, 3}}, 10},
		{equal, [][2]int{{0, 1}, {2, 3}}, 20},
	} {
		if pairs, bound, e := spacing.BestPairs(c.problem); !same(pairs, c.pairs) || bound != c.want || e != api.OK {
			t.Errorf("%v: %v, %d, %d, want %v, %d", c.problem, pairs, bound, e, c.pairs, c.want)
		}
	}
}

// P7.5, P7.9
func TestBestPairs(t *testing.T) {
	var pairings [7][][][2]int
	for count := range pairings {
		pairings[count] = allPairings(count)
	}
	none, several := 0, 0
	for _, x := range problems(87, 700) {
		count := len(x.Arrivals)
		bounds, isNone := map[[2]int]int{}, false
		for i := range count {
			for j := range i {
				bound, ok := boundOf(x, j, i)
				bounds[[2]int{j, i}] = bound
				isNone = isNone || !ok
				got, e := spacing.CheckPairs(x, [][2]int{{j, i}})
				if !ok {
					expectOnly(t, "pair", got, e, api.ErrNone)
				} else if got != bound || e != api.OK {
					t.Fatalf("%v, %d, %d: %d, %d, want %d", x, j, i, got, e, bound)
				}
			}
		}
		pairs, bound, e := spacing.BestPairs(x)
		_, cost, noPlan := spacing.BestPlan(x)
		if isNone {
			none++
			expectOnly(t, "pairs", pairs, e, api.ErrNone)
			expectOnly(t, "bound", bound, e, api.ErrNone)
			expect(t, "plan", noPlan, api.ErrNone)
			continue
		}
		var want [][2]int
		most := -1
		for _, l := range pairings[count] {
			sum := 0
			for _, pair := range l {
				sum += bounds[pair]
			}
			if got, e := spacing.CheckPairs(x, l); got != sum || e != api.OK {
				t.Fatalf("%v, %v: %d, %d, want %d", x, l, got, e, sum)
			}
			if sum > most {
				want, most = l, sum
			}
		}
		if !same(pairs, want) || bound != most || e != api.OK {
			t.Fatalf("%v: %v, %d, %d, want %v, %d", x, pairs, bound, e, want, most)
		}
		if noPlan == api.OK && cost < bound {
			t.Fatalf("%v: %d, want at least %d", x, cost, bound)
		}
		if len(pairs) > 1 {
			several++
		}
	}
	if none < 30 || several < 50 {
		t.Errorf("%d problems without a bound, %d with several pairs", none, several)
	}
}

// P7.5: a pair of which no order is possible matters even if it would not be a best one.
func TestBestPairsErrors(t *testing.T) {
	for _, x := range []api.SpacingProblem{
		single(10, arrival("a", 0, 5, 5, 1), arrival("b", 0, 5, 5, 1)),
		single(10, arrival("a", 0, 5, 5, 0), arrival("b", 0, 5, 5, 0), arrival("c", 0, 20, 99, 100), arrival("d", 0, 20, 99, 100)),
		single(10, arrival("a", 0, 20, 99, 100), arrival("b", 0, 20, 99, 100), arrival("c", 0, 5, 5, 0), arrival("d", 0, 5, 5, 0)),
	} {
		pairs, bound, e := spacing.BestPairs(x)
		expectOnly(t, "pairs", pairs, e, api.ErrNone)
		expectOnly(t, "bound", bound, e, api.ErrNone)
	}
	// All two arrivals have an order, but all three have none: there is a bound.
	x := single(1, arrival("a", 0, 0, 1, 1), arrival("b", 0, 0, 1, 1), arrival("c", 0, 0, 1, 1))
	if pairs, bound, e := spacing.BestPairs(x); !same(pairs, [][2]int{{0, 1}}) || bound != 1 || e != api.OK {
		t.Errorf("%v, %d, %d", pairs, bound, e)
	}
}
