package spacing

import (
	"slices"

	"glidepath/api"
)

// problem is a valid problem.
type problem struct {
	api.SpacingProblem
	isFree [api.MaxSpacingArrivals]bool
}

// CheckArrivals returns the error of arrivals, with the index of the arrival that it concerns.
func CheckArrivals(l []api.SpacingArrival) (int, api.Errno) {
	return listError(l, api.MaxSpacingArrivals, arrivalError)
}

// CheckProblem returns the error of a problem, with the index of the row, of the arrival or of
// the item of Free that it concerns.
func CheckProblem(p api.SpacingProblem) (int, api.Errno) {
	if i, e := CheckRule(p.Rule); e != api.OK {
		return i, e
	}
	if i, e := CheckArrivals(p.Arrivals); e != api.OK {
		return i, e
	}
	i, e := itemError(p.Arrivals, func(_ []api.SpacingArrival, x api.SpacingArrival) api.Errno {
		return missingError(x.Category, len(p.Rule.Seconds))
	})
	if e != api.OK {
		return i, e
	}
	return itemError(p.Free, func(before []int, x int) api.Errno {
		isAfter := len(before) == 0 || x > before[len(before)-1]
		return firstError(missingError(x, len(p.Arrivals)), errorIf(!isAfter, api.ErrOrder))
	})
}

func arrivalError(before []api.SpacingArrival, x api.SpacingArrival) api.Errno {
	hasName := func(other api.SpacingArrival) bool { return other.Name == x.Name }
	return firstError(
		errorIf(!isName(x.Name), api.ErrName),
		errorIf(slices.ContainsFunc(before, hasName), api.ErrExists),
		rangeError(x.Category, 0, api.MaxSpacingCategories-1),
		rangeError(x.Earliest, 0, api.MaxSpacingTime),
		rangeError(x.Latest, 0, api.MaxSpacingTime),
		rangeError(x.Cost, 0, api.MaxSpacingCost),
		errorIf(x.Earliest > x.Latest, api.ErrOrder),
	)
}

func isName(s string) bool {
	if len(s) == 0 || len(s) > api.MaxName || !isLetter(s[0]) {
		return false
	}
	for i := range len(s) {
		if !isLetter(s[i]) && !isDigit(s[i]) && s[i] != '-' {
			return false
		}
	}
	return true
}

func isLetter(c byte) bool {
	return c >= 'a' && c <= 'z' || c >= 'A' && c <= 'Z'
}

func isDigit(c byte) bool {
	return c >= '0' && c <= '9'
}

// newProblem returns the error of a problem that is not valid.
func newProblem(given api.SpacingProblem) (problem, api.Errno) {
	if _, e := CheckProblem(given); e != api.OK {
		return problem{}, e
	}
	p := problem{SpacingProblem: given}
	for _, arrival := range given.Free {
		p.isFree[arrival] = true
	}
	return p, api.OK
}

func (p problem) separation(leader, follower int) int {
	return separationBy(p.Rule, api.SpacingPair{
		Leader:   p.Arrivals[leader].Category,
		Follower: p.Arrivals[follower].Category,
		IsFree:   p.isFree[leader],
	})
}

// placeError is for an arrival that comes after others.
func (p problem) placeError(before []int, arrival int) api.Errno {
	return firstError(
		missingError(arrival, len(p.Arrivals)),
		errorIf(slices.Contains(before, arrival), api.ErrDouble),
	)
}
