package target

import "glidepath/api"

// AgreementOf returns how many pairs do not agree, may agree, and agree within a limit.
func AgreementOf(l []api.TargetPair, limit int) ([3]int, api.Errno) {
	if e := firstError(pairsError(l), rangeError(limit, 0, api.MaxTargetSpeed)); e != api.OK {
		return [3]int{}, e
	}
	var counts [3]int
	for _, x := range l {
		counts[agrees(differenceOf(x), limit)]++
	}
	return counts, api.OK
}

// BiasOf returns the range of the mean difference.
func BiasOf(l []api.TargetPair) (api.Span, api.Errno) {
	if e := pairsError(l); e != api.OK {
		return api.Span{}, e
	}
	var sum api.Range
	for _, x := range l {
		difference := differenceOf(x)
		sum.Lo += difference.Lo
		sum.Hi += difference.Hi
	}
	return api.Span{Lo: lowest(sum.Lo, len(l)), Hi: lowest(sum.Hi, len(l))}, api.OK
}

func pairsError(l []api.TargetPair) api.Errno {
	_, e := filledError(l, api.MaxTargetPairs, func(x api.TargetPair) api.Errno {
		return firstError(
			sizeError(api.MaxTargetSpeed, x.Lidar.Lo, x.Lidar.Hi, x.Other.Lo, x.Other.Hi),
			errorIf(x.Lidar.Lo > x.Lidar.Hi || x.Other.Lo > x.Other.Hi, api.ErrOrder),
		)
	})
	return e
}

func differenceOf(x api.TargetPair) api.Range {
	return api.Range{Lo: x.Lidar.Lo - x.Other.Hi, Hi: x.Lidar.Hi - x.Other.Lo}
}

// agrees returns an answer.
func agrees(difference api.Range, limit int) int {
	switch {
	case difference.Lo > limit || difference.Hi < -limit:
		return api.AnswerNo
	case difference.Lo >= -limit && difference.Hi <= limit:
		return api.AnswerYes
	}
	return api.AnswerMaybe
}
