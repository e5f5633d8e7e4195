package scan

import (
	"iter"
	"slices"

	"glidepath/api"
)

// VisitsOf returns the visits of a program.
func VisitsOf(h api.ScanHead, l []api.ScanStep) ([]api.ScanVisit, api.Errno) {
	if e := runError(h, l); e != api.OK {
		return nil, e
	}
	return slices.Collect(visitsOf(h, l)), api.OK
}

// DurationOf returns the tick at which a program ends.
func DurationOf(h api.ScanHead, l []api.ScanStep) (int, api.Errno) {
	if e := runError(h, l); e != api.OK {
		return 0, e
	}
	duration := 0
	for v := range visitsOf(h, l) {
		duration = v.Ticks.Hi
	}
	return duration, api.OK
}

// FirstLit returns the first stop at which, or on the way to which, a reserved direction is
// lit, and this direction.
func FirstLit(h api.ScanHead, l []api.ScanStep) (int, api.ScanDirection, api.Errno) {
	if e := runError(h, l); e != api.OK {
		return 0, api.ScanDirection{}, e
	}
	at := h.Home
	for i, stop := range compiled(l) {
		if d, isLit := firstReserved(h, at, stop.Direction); isLit {
			return i, d, api.OK
		}
		at = stop.Direction
	}
	return 0, api.ScanDirection{}, api.ErrNone
}

// UnmetBy returns the indexes of the requests that no visit of a program meets.
func UnmetBy(h api.ScanHead, l []api.ScanStep, requests []api.ScanRequest) ([]int, api.Errno) {
	if e := firstError(runError(h, l), requestsError(requests)); e != api.OK {
		return nil, e
	}
	stops := compiled(l)
	var unmet []int
	for i, x := range requests {
		meets := func(stop api.ScanStop) bool { return isMet(x, stop.Direction) }
		if !slices.ContainsFunc(stops, meets) {
			unmet = append(unmet, i)
		}
	}
	return unmet, api.OK
}

// LongestGap returns the longest time of a program in which no visit meets a request.
func LongestGap(h api.ScanHead, l []api.ScanStep, x api.ScanRequest) (int, api.Errno) {
	if e := firstError(runError(h, l), requestError(x)); e != api.OK {
		return 0, e
	}
	isNeverMet := true
	gap, left, duration := 0, 0, 0
	for v := range visitsOf(h, l) {
		duration = v.Ticks.Hi
		if isMet(x, v.Direction) {
			isNeverMet = false
			gap = max(gap, v.Ticks.Lo-left)
			left = v.Ticks.Hi
		}
	}
	if isNeverMet {
		return 0, api.ErrNone
	}
	return max(gap, duration-left), api.OK
}

func runError(h api.ScanHead, l []api.ScanStep) api.Errno {
	return firstError(headError(h), programError(l))
}

func requestsError(l []api.ScanRequest) api.Errno {
	if len(l) > api.MaxScanRequests {
		return api.ErrLarge
	}
	_, e := itemError(l, requestError)
	return e
}

func requestError(x api.ScanRequest) api.Errno {
	return firstError(directionError(x.Direction), rangeError(x.Tolerance, 0, api.MaxScanTolerance))
}

func isMet(x api.ScanRequest, d api.ScanDirection) bool {
	turn, lift := distances(x.Direction, d)
	return turn <= x.Tolerance && lift <= x.Tolerance
}

// visitsOf yields the visits of a program.
func visitsOf(h api.ScanHead, l []api.ScanStep) iter.Seq[api.ScanVisit] {
	return func(yield func(api.ScanVisit) bool) {
		at, tick := h.Home, 0
		for _, stop := range compiled(l) {
			arrival := tick + moveTicks(h, at, stop.Direction)
			at, tick = stop.Direction, arrival+stop.Ticks
			if !yield(api.ScanVisit{Direction: at, Ticks: api.Range{Lo: arrival, Hi: tick}}) {
				return
			}
		}
	}
}
