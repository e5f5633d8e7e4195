package wind

import "slices"

// An equation has a factor for each unknown; the sum of the unknowns times their factors is 0.

// solutionsOf returns, for each unknown that equations leave free, their solution that is above
// 0 at it, 0 at the other ones that are free, and without a common divisor.
func solutionsOf(equations [][]int, unknowns int) [][]int {
	kept := reduced(equations)
	var solutions [][]int
	for k := range unknowns {
		isLed := func(equation []int) bool { return leaderOf(equation) == k }
		if !slices.ContainsFunc(kept, isLed) {
			solutions = append(solutions, solutionOf(kept, unknowns, k))
		}
	}
	return solutions
}

// reduced returns equations with the same solutions, of which none follows from the others; the
// leader of each does not stand in the others.
func reduced(equations [][]int) [][]int {
	var kept [][]int
	for _, equation := range equations {
		for _, other := range kept {
			equation = without(equation, other)
		}
		if leaderOf(equation) < 0 {
			continue
		}
		for i, other := range kept {
			kept[i] = without(other, equation)
		}
		kept = append(kept, equation)
	}
	return kept
}

// leaderOf returns the first unknown of an equation, or -1.
func leaderOf(equation []int) int {
	return slices.IndexFunc(equation, func(factor int) bool { return factor != 0 })
}

// without adds multiples of two equations, so that the leader of the other one goes.
func without(equation, other []int) []int {
	leader := leaderOf(other)
	sum := make([]int, len(equation))
	for i := range sum {
		sum[i] = equation[i]*other[leader] - other[i]*equation[leader]
	}
	// Numbers without a common divisor stay small, however many equations are added.
	return primitive(sum, leader)
}

// solutionOf expects reduced equations of which none is led by the free unknown.
func solutionOf(kept [][]int, unknowns, free int) []int {
	solution := make([]int, unknowns)
	solution[free] = 1
	for _, equation := range kept {
		solution[free] *= equation[leaderOf(equation)]
	}
	for _, equation := range kept {
		leader := leaderOf(equation)
		solution[leader] = -equation[free] * (solution[free] / equation[leader])
	}
	return primitive(solution, free)
}

// primitive divides numbers by their common divisor, so that the one at an index is not below 0.
func primitive(l []int, index int) []int {
	d := divisorOf(l...)
	if d == 0 {
		return l
	}
	if l[index] < 0 {
		d = -d
	}
	divided := make([]int, len(l))
	for i, x := range l {
		divided[i] = x / d
	}
	return divided
}
