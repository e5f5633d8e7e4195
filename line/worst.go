package line

import (
	"slices"

	"glidepath/api"
)

// BiasOf returns the bias of an estimator whose estimates are whole.
func BiasOf(c api.LineCase, kind int) (api.Frac, api.Errno) {
	isWhole := kind == api.LinePeak || kind == api.LineMedian
	if e := firstError(CheckCase(c), errorIf(!isWhole, api.ErrKind)); e != api.OK {
		return api.Frac{}, e
	}
	sum := 0
	for _, s := range casesOf(c) {
		sum += s.estimate(kind).Num
	}
	return minus(lowest(sum, caseCount(c)), c.Truth), api.OK
}

// WorstOf returns the greatest error of an estimator, with the first case that has it.
func WorstOf(c api.LineCase, kind int) (api.LineWorst, api.Errno) {
	if e := firstError(CheckCase(c), kindError(kind)); e != api.OK {
		return api.LineWorst{}, e
	}
	return worstOf(c, kind), api.OK
}

// CheckWorst accepts the error of w as the greatest one; otherwise with ErrProof it returns
// the first case that has a greater one.
func CheckWorst(c api.LineCase, kind int, w api.LineWorst) (int, api.Errno) {
	e := firstError(
		CheckCase(c),
		kindError(kind),
		errorIf(!isLowest(w.Error) || w.Error.Num < 0, api.ErrForm),
	)
	if e != api.OK {
		return 0, e
	}
	if hasNoCase(c, w.Number) {
		return 0, api.ErrMissing
	}
	if errorIn(noisy(c, w.Number), kind, c.Truth) != w.Error {
		return 0, api.ErrClash
	}
	for number, s := range casesOf(c) {
		if isLess(w.Error, errorIn(s, kind, c.Truth)) {
			return number, api.ErrProof
		}
	}
	return 0, api.OK
}

// BestOf returns the first kind with the smallest greatest error, and its worst.
func BestOf(c api.LineCase, kinds []int) (int, api.LineWorst, api.Errno) {
	if e := firstError(CheckCase(c), kindsError(kinds)); e != api.OK {
		return 0, api.LineWorst{}, e
	}
	best, least := kinds[0], worstOf(c, kinds[0])
	for _, kind := range kinds[1:] {
		if worst := worstOf(c, kind); isLess(worst.Error, least.Error) {
			best, least = kind, worst
		}
	}
	return best, least, api.OK
}

func kindsError(kinds []int) api.Errno {
	return firstError(
		errorIf(len(kinds) == 0, api.ErrShape),
		errorIf(len(kinds) > api.LineEstimators, api.ErrLarge),
		errorIf(slices.ContainsFunc(kinds, isNoKind), api.ErrKind),
	)
}

func worstOf(c api.LineCase, kind int) api.LineWorst {
	worst := api.LineWorst{Error: whole(0)}
	for number, s := range casesOf(c) {
		if x := errorIn(s, kind, c.Truth); isLess(worst.Error, x) {
			worst = api.LineWorst{Error: x, Number: number}
		}
	}
	return worst
}

func errorIn(s spectrum, kind int, truth api.Frac) api.Frac {
	away := minus(s.estimate(kind), truth)
	away.Num = max(away.Num, -away.Num)
	return away
}
