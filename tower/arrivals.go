package tower

import (
	"slices"

	"glidepath/api"
	"glidepath/spacing"
)

// PlanFor returns the best plan after the slots of a runway, and its cost.
func PlanFor(n api.TowerNet, l []api.TowerEntry, runway string) ([]api.SpacingSlot, int, api.Errno) {
	a, i, e := replayedFor(n, l, runway)
	if e != api.OK {
		return nil, 0, e
	}
	return spacing.Replanned(a.problemOf(i), a.Strips[i].Slots)
}

func (a *airport) addArrival(c command) api.Errno {
	i := a.runwayNamed(c.words[0])
	if i < 0 {
		return api.ErrMissing
	}
	parsed, e := spacing.ParseArrivals(c.rest)
	if e := firstError(e, errorIf(len(parsed) != 1, api.ErrShape)); e != api.OK {
		return e
	}
	if _, isKnown := a.arrivalNamed(parsed[0].Name); isKnown {
		return api.ErrExists
	}
	problem := a.problemOf(i)
	problem.Arrivals = append(slices.Clone(problem.Arrivals), parsed[0])
	if _, e := spacing.CheckProblem(problem); e != api.OK {
		return e
	}
	a.Strips[i].Arrivals = problem.Arrivals
	return api.OK
}

func (a *airport) freeCorridor(c command) api.Errno {
	p, ok := a.arrivalNamed(c.words[0])
	if !ok {
		return api.ErrMissing
	}
	strip := &a.Strips[p.strip]
	i, isFree := slices.BinarySearch(strip.Free, p.arrival)
	if isFree {
		return api.ErrDouble
	}
	strip.Free = slices.Insert(strip.Free, i, p.arrival)
	return api.OK
}

func (a *airport) release(c command) api.Errno {
	p, ok := a.arrivalNamed(c.words[0])
	if !ok {
		return api.ErrMissing
	}
	strip := &a.Strips[p.strip]
	isAlerted := a.alertAt(p.strip, c.At).Standing
	slots := append(slices.Clone(strip.Slots), api.SpacingSlot{Arrival: p.arrival, Time: c.number})
	_, e := spacing.FixedBy(a.problemOf(p.strip), slots, 0)
	if e := firstError(
		errorIf(strip.Closed, api.ErrState),
		errorIf(isAlerted && !slices.Contains(strip.Known, c.By), api.ErrRefused),
		e,
	); e != api.OK {
		return e
	}
	strip.Slots = slots
	a.Releases = append(a.Releases, api.TowerRelease{Arrival: c.words[0], By: c.By, Time: c.number})
	return api.OK
}

func (a *airport) goAround(c command) api.Errno {
	p, ok := a.arrivalNamed(c.words[0])
	if !ok {
		return api.ErrMissing
	}
	strip := &a.Strips[p.strip]
	slot := slices.IndexFunc(strip.Slots, func(x api.SpacingSlot) bool { return x.Arrival == p.arrival })
	if slot < 0 {
		return api.ErrState
	}
	around := api.SpacingAround{Arrival: p.arrival, Time: strip.Slots[slot].Time, Delay: c.number}
	problem, e := spacing.GoneAround(a.problemOf(p.strip), around)
	if e != api.OK {
		return e
	}
	strip.Arrivals, strip.Free = problem.Arrivals, problem.Free
	strip.Slots = slices.Delete(strip.Slots, slot, slot+1)
	return api.OK
}

func (a *airport) closeRunway(c command) api.Errno {
	i := a.runwayNamed(c.words[0])
	e := firstError(
		errorIf(i < 0, api.ErrMissing),
		errorIf(c.rest == "", api.ErrForm),
		errorIf(i >= 0 && a.Strips[i].Closed, api.ErrState),
	)
	if e != api.OK {
		return e
	}
	a.Strips[i].Closed = true
	return api.OK
}

func (a *airport) openRunway(c command) api.Errno {
	i := a.runwayNamed(c.words[0])
	e := firstError(
		errorIf(i < 0, api.ErrMissing),
		errorIf(i >= 0 && !a.Strips[i].Closed, api.ErrState),
	)
	if e != api.OK {
		return e
	}
	a.Strips[i].Closed = false
	return api.OK
}
