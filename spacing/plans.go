package spacing

import (
	"slices"

	"glidepath/api"
)

// TimesOf returns the smallest times of an order.
func TimesOf(p api.SpacingProblem, order []int) ([]int, api.Errno) {
	_, plan, e := ordered(p, order)
	if e != api.OK {
		return nil, e
	}
	times := make([]int, len(plan))
	for i, x := range plan {
		times[i] = x.Time
	}
	return times, api.OK
}

// CostOf returns the cost of the smallest times of an order.
func CostOf(p api.SpacingProblem, order []int) (int, api.Errno) {
	known, plan, e := ordered(p, order)
	if e != api.OK {
		return 0, e
	}
	return known.cost(plan), api.OK
}

// CheckPlan returns the cost of a whole plan that keeps the rules.
func CheckPlan(p api.SpacingProblem, plan []api.SpacingSlot) (int, api.Errno) {
	known, e := fitting(p, plan)
	if e != api.OK {
		return 0, e
	}
	if len(plan) < len(p.Arrivals) {
		return 0, api.ErrShape
	}
	return known.cost(plan), api.OK
}

// MarginsOf returns by how much each slot from the second one on is later than it must be.
func MarginsOf(p api.SpacingProblem, plan []api.SpacingSlot) ([]int, api.Errno) {
	known, e := newProblem(p)
	if e != api.OK {
		return nil, e
	}
	_, e = itemError(plan, func(before []api.SpacingSlot, x api.SpacingSlot) api.Errno {
		return firstError(
			known.placeError(orderOf(before), x.Arrival),
			rangeError(x.Time, 0, api.MaxSpacingTime),
		)
	})
	if e != api.OK {
		return nil, e
	}
	var margins []int
	for i, x := range plan {
		if i > 0 {
			margins = append(margins, x.Time-known.dueAfter(plan[:i], x.Arrival))
		}
	}
	return margins, api.OK
}

// BestPlan returns the best plan without fixed slots, and its cost.
func BestPlan(p api.SpacingProblem) ([]api.SpacingSlot, int, api.Errno) {
	return Replanned(p, nil)
}

// Replanned returns the best plan after fixed slots, and its cost.
func Replanned(p api.SpacingProblem, fixed []api.SpacingSlot) ([]api.SpacingSlot, int, api.Errno) {
	known, e := fitting(p, fixed)
	if e != api.OK {
		return nil, 0, e
	}
	before := orderOf(fixed)
	var further []int
	for arrival := range known.Arrivals {
		if !slices.Contains(before, arrival) {
			further = append(further, arrival)
		}
	}
	best, cost, ok := known.best(fixed, further)
	if !ok {
		return nil, 0, api.ErrNone
	}
	return best, cost, api.OK
}

// ordered returns the plan of an order, too.
func ordered(p api.SpacingProblem, order []int) (problem, []api.SpacingSlot, api.Errno) {
	known, e := newProblem(p)
	if e != api.OK {
		return problem{}, nil, e
	}
	if _, e := itemError(order, known.placeError); e != api.OK {
		return problem{}, nil, e
	}
	plan, ok := known.extended(nil, order)
	return known, plan, errorIf(!ok, api.ErrBreak)
}

// fitting returns the error of the problem, and that of the slots.
func fitting(p api.SpacingProblem, slots []api.SpacingSlot) (problem, api.Errno) {
	known, e := newProblem(p)
	if e != api.OK {
		return problem{}, e
	}
	_, e = itemError(slots, known.slotError)
	return known, e
}

func (p problem) slotError(before []api.SpacingSlot, x api.SpacingSlot) api.Errno {
	if e := p.placeError(orderOf(before), x.Arrival); e != api.OK {
		return e
	}
	a := p.Arrivals[x.Arrival]
	return firstError(
		rangeError(x.Time, a.Earliest, a.Latest),
		errorIf(x.Time < p.dueAfter(before, x.Arrival), api.ErrBreak),
	)
}

// dueAfter returns the smallest time that keeps the separations from all slots before it. It
// expects that none of their times is below 0.
func (p problem) dueAfter(before []api.SpacingSlot, arrival int) int {
	due := 0
	for _, leader := range before {
		due = max(due, leader.Time+p.separation(leader.Arrival, arrival))
	}
	return due
}

// extended goes on with the smallest times of an order, and says whether it is possible.
func (p problem) extended(slots []api.SpacingSlot, order []int) ([]api.SpacingSlot, bool) {
	plan := slices.Clone(slots)
	for _, arrival := range order {
		a := p.Arrivals[arrival]
		time := max(a.Earliest, p.dueAfter(plan, arrival))
		if time > a.Latest {
			return nil, false
		}
		plan = append(plan, api.SpacingSlot{Arrival: arrival, Time: time})
	}
	return plan, true
}

func (p problem) cost(plan []api.SpacingSlot) int {
	cost := 0
	for _, x := range plan {
		a := p.Arrivals[x.Arrival]
		cost += a.Cost * (x.Time - a.Earliest)
	}
	return cost
}

// best returns the cheapest plan that goes on with further arrivals, which ascend, and its cost.
// Orders come in lexicographic order, so that the first one of several counts.
func (p problem) best(fixed []api.SpacingSlot, further []int) ([]api.SpacingSlot, int, bool) {
	var best []api.SpacingSlot
	least, isFound := 0, false
	for order := range ordersOf(further) {
		plan, ok := p.extended(fixed, order)
		if !ok {
			continue
		}
		if cost := p.cost(plan); !isFound || cost < least {
			best, least, isFound = plan, cost, true
		}
	}
	return best, least, isFound
}

func orderOf(plan []api.SpacingSlot) []int {
	order := make([]int, len(plan))
	for i, x := range plan {
		order[i] = x.Arrival
	}
	return order
}
