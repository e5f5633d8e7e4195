package wake

import "glidepath/api"

// IsFree returns the answer whether a corridor is free of a box with a drift.
func IsFree(b api.WakeBox, d api.WakeDrift, c api.WakeCorridor) (int, api.Errno) {
	if e := freeError(b, d, c); e != api.OK {
		return 0, e
	}
	region := regionOf(c)
	answer := api.AnswerYes
	for ticks := c.From; ticks <= c.To; ticks++ {
		x := boxAfter(b, d, ticks)
		if isWithin(x, region) {
			return api.AnswerNo, api.OK
		}
		if !isEmpty(meetOf(x, region)) {
			answer = api.AnswerMaybe
		}
	}
	return answer, api.OK
}

// EarliestFree returns the smallest tick from which on a corridor is free of a box with a drift.
func EarliestFree(b api.WakeBox, d api.WakeDrift, c api.WakeCorridor) (int, api.Errno) {
	if e := freeError(b, d, c); e != api.OK {
		return 0, e
	}
	region := regionOf(c)
	for ticks := c.To; ticks >= c.From; ticks-- {
		if isEmpty(meetOf(boxAfter(b, d, ticks), region)) {
			continue
		}
		if ticks == c.To {
			return 0, api.ErrNone
		}
		return ticks + 1, api.OK
	}
	return c.From, api.OK
}

func freeError(b api.WakeBox, d api.WakeDrift, c api.WakeCorridor) api.Errno {
	return firstError(CheckBox(b), driftError(d), corridorError(c))
}

func corridorError(c api.WakeCorridor) api.Errno {
	ticks := api.Range{Lo: c.From, Hi: c.To}
	return firstError(
		endsError(-api.MaxWakeEnd, api.MaxWakeEnd, c.Y, c.Z),
		rangeError(c.Limit, 0, api.MaxWakeLimit),
		endsError(0, api.MaxWakeTicks, ticks),
		orderError(c.Y, c.Z, ticks),
	)
}

// regionOf is the box of all vortices that are in a corridor: no vortex of a box is stronger.
func regionOf(c api.WakeCorridor) api.WakeBox {
	return api.WakeBox{
		Y:        c.Y,
		Z:        c.Z,
		Strength: api.Range{Lo: c.Limit, Hi: api.MaxWakeStrength},
	}
}
