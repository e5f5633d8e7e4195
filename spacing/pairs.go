package spacing

import "glidepath/api"

// CheckPairs returns the bound of pairs: no whole plan costs less.
func CheckPairs(p api.SpacingProblem, pairs [][2]int) (int, api.Errno) {
	known, e := newProblem(p)
	if e != api.OK {
		return 0, e
	}
	if _, e := itemError(pairs, known.pairError); e != api.OK {
		return 0, e
	}
	costs := known.pairCosts()
	for _, pair := range pairs {
		if _, ok := costs[pair]; !ok {
			return 0, api.ErrNone
		}
	}
	return boundBy(costs, pairs), api.OK
}

// BestPairs returns the pairs with the maximum bound, and this bound.
func BestPairs(p api.SpacingProblem) ([][2]int, int, api.Errno) {
	known, e := newProblem(p)
	if e != api.OK {
		return nil, 0, e
	}
	count := len(known.Arrivals)
	costs := known.pairCosts()
	if len(costs) < len(pairsOf(count)) {
		return nil, 0, api.ErrNone
	}
	var best [][2]int
	most := 0
	// Lists come in lexicographic order, and the empty one has the bound 0.
	for pairs := range pairingsOf(count) {
		if bound := boundBy(costs, pairs); bound > most {
			best, most = pairs, bound
		}
	}
	return best, most, api.OK
}

func (p problem) pairError(before [][2]int, pair [2]int) api.Errno {
	first, second := pair[0], pair[1]
	isAfter := len(before) == 0 || first > before[len(before)-1][0]
	return firstError(
		missingError(first, len(p.Arrivals)),
		missingError(second, len(p.Arrivals)),
		errorIf(first >= second || !isAfter, api.ErrOrder),
		errorIf(isTaken(before, pair), api.ErrDouble),
	)
}

// pairCosts returns the smaller one of the costs of both orders of each pair alone. A pair of
// which no order is possible has none.
func (p problem) pairCosts() map[[2]int]int {
	costs := map[[2]int]int{}
	for _, pair := range pairsOf(len(p.Arrivals)) {
		if _, cost, ok := p.best(nil, pair[:]); ok {
			costs[pair] = cost
		}
	}
	return costs
}

func boundBy(costs map[[2]int]int, pairs [][2]int) int {
	bound := 0
	for _, pair := range pairs {
		bound += costs[pair]
	}
	return bound
}
