package spacing

import (
	"slices"

	"glidepath/api"
)

// FixedBy returns the slots at the beginning of a plan up to a time.
func FixedBy(p api.SpacingProblem, plan []api.SpacingSlot, until int) ([]api.SpacingSlot, api.Errno) {
	_, e := fitting(p, plan)
	if e := firstError(e, rangeError(until, 0, api.MaxSpacingTime)); e != api.OK {
		return nil, e
	}
	count := 0
	for i, x := range plan {
		if x.Time <= until {
			count = i + 1
		}
	}
	return slices.Clone(plan[:count]), api.OK
}

// GoneAround returns the problem after an arrival has gone around.
func GoneAround(p api.SpacingProblem, x api.SpacingAround) (api.SpacingProblem, api.Errno) {
	if _, e := CheckProblem(p); e != api.OK {
		return api.SpacingProblem{}, e
	}
	if e := missingError(x.Arrival, len(p.Arrivals)); e != api.OK {
		return api.SpacingProblem{}, e
	}
	a := p.Arrivals[x.Arrival]
	earliest := x.Time + x.Delay
	latest := a.Latest + earliest - a.Earliest
	if e := firstError(
		rangeError(x.Time, a.Earliest, a.Latest),
		rangeError(x.Delay, 1, api.MaxSpacingDelay),
		errorIf(latest > api.MaxSpacingTime, api.ErrBreak),
	); e != api.OK {
		return api.SpacingProblem{}, e
	}
	a.Earliest, a.Latest = earliest, latest
	after := cloned(p)
	after.Arrivals[x.Arrival] = a
	after.Free = slices.DeleteFunc(after.Free, func(free int) bool { return free == x.Arrival })
	return after, api.OK
}

// MostBy returns the most arrivals that have an order whose times are at most a time.
func MostBy(p api.SpacingProblem, time int) ([]int, api.Errno) {
	known, e := newProblem(p)
	if e := firstError(e, rangeError(time, 0, api.MaxSpacingTime)); e != api.OK {
		return nil, e
	}
	var most []int
	// Sets come in lexicographic order, so that the first one of several counts.
	for set := range setsOf(len(known.Arrivals)) {
		if len(set) > len(most) && known.isDoneBy(time, set) {
			most = set
		}
	}
	return most, api.OK
}

// isDoneBy says whether arrivals have a possible order all of whose times are at most a time.
func (p problem) isDoneBy(time int, set []int) bool {
	isLater := func(x api.SpacingSlot) bool { return x.Time > time }
	for order := range ordersOf(set) {
		plan, ok := p.extended(nil, order)
		if ok && !slices.ContainsFunc(plan, isLater) {
			return true
		}
	}
	return false
}

func cloned(p api.SpacingProblem) api.SpacingProblem {
	return api.SpacingProblem{
		Rule:     api.SpacingRule{Seconds: clonedRows(p.Rule.Seconds), Free: clonedRows(p.Rule.Free)},
		Arrivals: slices.Clone(p.Arrivals),
		Free:     slices.Clone(p.Free),
	}
}

func clonedRows(rows [][]int) [][]int {
	l := make([][]int, len(rows))
	for i, row := range rows {
		l[i] = slices.Clone(row)
	}
	return l
}
