package cloud

import (
	"cmp"
	"math"
	"slices"

	"glidepath/api"
)

// division is the gates at which the segments of the first gates of a profile begin, and their
// cost with all penalties.
type division struct {
	starts []int
	cost   int
}

// SegmentCost returns the cost of the segment with the gates of a range.
func SegmentCost(l []int, r api.Range) (int, api.Errno) {
	if e := firstError(
		profileError(l),
		missingError(r.Lo, len(l)),
		missingError(r.Hi, len(l)),
		errorIf(r.Lo > r.Hi, api.ErrOrder),
	); e != api.OK {
		return 0, e
	}
	return profile(l).cost(r.Lo, r.Hi+1), api.OK
}

// SegmentsOf returns the gates at which the segments of the best division begin, and its cost.
func SegmentsOf(l []int, penalty int) ([]int, int, api.Errno) {
	if e := firstError(profileError(l), penaltyError(penalty)); e != api.OK {
		return nil, 0, e
	}
	best := []division{{}}
	for range l {
		best = append(best, profile(l).divisionAfter(best, penalty))
	}
	whole := best[len(l)]
	return whole.starts, whole.cost, api.OK
}

// PotentialsOf returns the potentials that hold.
func PotentialsOf(l []int, penalty int) ([]int, api.Errno) {
	if e := firstError(profileError(l), penaltyError(penalty)); e != api.OK {
		return nil, e
	}
	var potentials []int
	for range len(l) + 1 {
		potentials = append(potentials, profile(l).potentialAfter(potentials, penalty))
	}
	return potentials, api.OK
}

// CheckPotentials returns the potential of all gates, or the index of the first potential that
// does not hold.
func CheckPotentials(l []int, penalty int, p []int) (int, api.Errno) {
	if e := firstError(
		profileError(l),
		penaltyError(penalty),
		errorIf(len(p) != len(l)+1, api.ErrShape),
	); e != api.OK {
		return 0, e
	}
	i, e := itemError(p, func(before []int, potential int) api.Errno {
		return errorIf(potential != profile(l).potentialAfter(before, penalty), api.ErrProof)
	})
	if e != api.OK {
		return i, e
	}
	return p[len(l)], api.OK
}

func missingError(gate, gates int) api.Errno {
	return errorIf(gate < 0 || gate >= gates, api.ErrMissing)
}

// cost returns that of the segment from a gate up to another one, which is excluded.
func (p profile) cost(from, to int) int {
	segment := p[from:to]
	// No number is nearer to all of them than their middle.
	middle := middleOf(segment)
	cost := 0
	for _, signal := range segment {
		cost += max(signal-middle, middle-signal)
	}
	return cost
}

// potentialAfter returns the potential of as many gates as there are potentials of fewer ones.
func (p profile) potentialAfter(before []int, penalty int) int {
	if len(before) == 0 {
		return 0
	}
	least := math.MaxInt
	for from, potential := range before {
		least = min(least, potential+p.cost(from, len(before))+penalty)
	}
	return least
}

// divisionAfter returns the best division of as many gates as there are best ones of fewer gates.
func (p profile) divisionAfter(before []division, penalty int) division {
	var longer []division
	for from, d := range before {
		longer = append(longer, d.grown(from, p.cost(from, len(before))+penalty))
	}
	return slices.MinFunc(longer, division.compare)
}

func (d division) grown(start, cost int) division {
	// Several divisions go on from this one: the third index makes each of them new memory.
	count := len(d.starts)
	return division{append(d.starts[:count:count], start), d.cost + cost}
}

func (d division) compare(other division) int {
	return cmp.Or(
		cmp.Compare(d.cost, other.cost),
		cmp.Compare(len(d.starts), len(other.starts)),
		slices.Compare(d.starts, other.starts),
	)
}
