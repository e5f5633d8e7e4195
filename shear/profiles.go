package shear

import (
	"iter"

	"glidepath/api"
)

// CheckProfile returns the error of a profile, with the index of the gate that it concerns.
func CheckProfile(l []api.ShearGate) (int, api.Errno) {
	orderError := ascending()
	return listError(l, api.MaxShearGates, func(x api.ShearGate) api.Errno {
		return firstError(
			lengthError(x.At),
			endsError(-api.MaxShearWind, api.MaxShearWind, x.Wind),
			orderError(x.At),
		)
	})
}

// LossBetween returns the loss from a gate to a later one.
func LossBetween(l []api.ShearGate, from, to int) (api.Range, api.Errno) {
	e := firstError(
		profileError(l),
		errorIf(from < 0 || from >= len(l), api.ErrMissing),
		errorIf(to < 0 || to >= len(l), api.ErrMissing),
		errorIf(to <= from, api.ErrOrder),
	)
	if e != api.OK {
		return api.Range{}, e
	}
	return loss(l[from], l[to]), api.OK
}

// StrongestLoss returns the pair of gates within a length whose certain loss is the greatest.
func StrongestLoss(l []api.ShearGate, length int) (api.ShearChange, api.Errno) {
	return greatest(l, length, loss, lower)
}

// StrongestGain returns the pair of gates within a length whose certain gain is the greatest.
func StrongestGain(l []api.ShearGate, length int) (api.ShearChange, api.Errno) {
	return greatest(l, length, change, lower)
}

// PossibleLoss returns a loss that no pair of gates within a length exceeds.
func PossibleLoss(l []api.ShearGate, length int) (int, api.Errno) {
	x, e := greatest(l, length, loss, upper)
	return x.Change.Hi, e
}

// RampsIn returns the ramps of a profile for a limit.
func RampsIn(l []api.ShearGate, limit int) ([]api.Range, api.Errno) {
	e := firstError(profileError(l), rangeError(limit, 1, api.MaxShearLoss))
	if e != api.OK {
		return nil, e
	}
	var ramps []api.Range
	for to := 1; to < len(l); to++ {
		if lower(loss(l[to-1], l[to])) >= limit {
			ramps = withStep(ramps, to)
		}
	}
	return ramps, api.OK
}

// BlindIn returns the blind stretches of a range of positions for a gap.
func BlindIn(l []api.ShearGate, span api.Range, gap int) ([]api.Range, api.Errno) {
	e := firstError(profileError(l), endsError(0, api.MaxShearAt, span), lengthError(gap))
	if e != api.OK {
		return nil, e
	}
	var blind []api.Range
	next := span.Lo
	for _, gate := range l {
		blind = withStretch(blind, next, min(span.Hi, gate.At-gap-1))
		next = max(next, gate.At+gap+1)
	}
	return withStretch(blind, next, span.Hi), api.OK
}

func profileError(l []api.ShearGate) api.Errno {
	_, e := CheckProfile(l)
	return e
}

// change returns the range of all differences of a headwind at the later gate and one at the first.
func change(from, to api.ShearGate) api.Range {
	return api.Range{Lo: to.Wind.Lo - from.Wind.Hi, Hi: to.Wind.Hi - from.Wind.Lo}
}

func loss(from, to api.ShearGate) api.Range {
	return times(-1, change(from, to))
}

func lower(r api.Range) int { return r.Lo }

func upper(r api.Range) int { return r.Hi }

// greatest returns the first pair of gates whose range has the greatest end.
func greatest(
	l []api.ShearGate, length int, rangeOf func(from, to api.ShearGate) api.Range, endOf func(api.Range) int,
) (api.ShearChange, api.Errno) {
	if e := firstError(profileError(l), lengthError(length)); e != api.OK {
		return api.ShearChange{}, e
	}
	var best api.ShearChange
	found := api.ErrNone
	for from, to := range pairsWithin(l, length) {
		x := api.ShearChange{From: from, To: to, Change: rangeOf(l[from], l[to])}
		if found != api.OK || endOf(x.Change) > endOf(best.Change) {
			best, found = x, api.OK
		}
	}
	return best, found
}

// pairsWithin yields the indexes of all two gates within a length, in lexicographic order.
func pairsWithin(l []api.ShearGate, length int) iter.Seq2[int, int] {
	return func(yield func(from, to int) bool) {
		for from := range l {
			for to := from + 1; to < len(l) && l[to].At-l[from].At <= length; to++ {
				if !yield(from, to) {
					return
				}
			}
		}
	}
}

// withStep adds the step to a gate from the one before: to the last ramp if this ends there.
func withStep(ramps []api.Range, to int) []api.Range {
	last := len(ramps) - 1
	if last >= 0 && ramps[last].Hi == to-1 {
		ramps[last].Hi = to
		return ramps
	}
	return append(ramps, api.Range{Lo: to - 1, Hi: to})
}

// withStretch adds a stretch if it has positions.
func withStretch(blind []api.Range, lo, hi int) []api.Range {
	if lo > hi {
		return blind
	}
	return append(blind, api.Range{Lo: lo, Hi: hi})
}
