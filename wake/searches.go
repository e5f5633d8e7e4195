package wake

import (
	"iter"
	"math"

	"glidepath/api"
)

// CheckSearch returns the error of a search.
func CheckSearch(x api.WakeSearch) api.Errno {
	return firstError(
		sideError(x.Y, -api.MaxWakePart),
		sideError(x.Z, 0),
		rangeError(x.Half, 1, api.MaxWakeHalf),
		strengthsError(x.Strengths),
		setupError(x.Setup),
		readingsError(x.Readings),
	)
}

// BestIn returns the first pair of a search with the minimum misfit, and this.
func BestIn(x api.WakeSearch) (api.WakePair, int, api.Errno) {
	if e := CheckSearch(x); e != api.OK {
		return api.WakePair{}, 0, e
	}
	var best api.WakePair
	least := math.MaxInt
	for p := range pairsOf(x) {
		misfit := misfitOf(p, x.Setup, x.Readings)
		if misfit < least {
			best, least = p, misfit
		}
	}
	return best, least, api.OK
}

// MatchesIn returns all pairs of a search whose misfit is at most a number.
func MatchesIn(x api.WakeSearch, most int) ([]api.WakePair, api.Errno) {
	e := firstError(CheckSearch(x), rangeError(most, 0, api.MaxWakeReadings*api.MaxWakeProduct))
	if e != api.OK {
		return nil, e
	}
	var matches []api.WakePair
	for p := range pairsOf(x) {
		if misfitOf(p, x.Setup, x.Readings) <= most {
			matches = append(matches, p)
		}
	}
	return matches, api.OK
}

func sideError(side api.Range, least int) api.Errno {
	return firstError(
		endsError(least, api.MaxWakePart, side),
		orderError(side),
		errorIf(side.Hi-side.Lo > api.MaxWakeSide, api.ErrLarge),
	)
}

func strengthsError(l []int) api.Errno {
	before := 0
	_, e := listError(l, api.MaxWakeStrengths, func(strength int) api.Errno {
		e := firstError(
			rangeError(strength, 1, api.MaxWakeStrength),
			errorIf(strength <= before, api.ErrOrder),
		)
		before = strength
		return e
	})
	return firstError(errorIf(len(l) == 0, api.ErrShape), e)
}

// pairsOf yields the pairs of a search, in order.
func pairsOf(x api.WakeSearch) iter.Seq[api.WakePair] {
	return func(yield func(api.WakePair) bool) {
		for y := x.Y.Lo; y <= x.Y.Hi; y++ {
			for z := x.Z.Lo; z <= x.Z.Hi; z++ {
				for _, strength := range x.Strengths {
					centre := api.WakePoint{Y: y, Z: z}
					if !yield(api.WakePair{Centre: centre, Half: x.Half, Strength: strength}) {
						return
					}
				}
			}
		}
	}
}
