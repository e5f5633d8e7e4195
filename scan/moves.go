package scan

import (
	"iter"
	"slices"

	"glidepath/api"
)

// WayOf returns all directions of the way from a direction to another one.
func WayOf(a, b api.ScanDirection) ([]api.ScanDirection, api.Errno) {
	if e := firstError(directionError(a), directionError(b)); e != api.OK {
		return nil, e
	}
	return slices.Collect(wayOf(a, b)), api.OK
}

// MoveTicks returns the ticks of a move of a head.
func MoveTicks(h api.ScanHead, a, b api.ScanDirection) (int, api.Errno) {
	if e := moveError(h, a, b); e != api.OK {
		return 0, e
	}
	return moveTicks(h, a, b), api.OK
}

// IsDark returns whether a move of a head lights no reserved direction.
func IsDark(h api.ScanHead, a, b api.ScanDirection) (bool, api.Errno) {
	if e := moveError(h, a, b); e != api.OK {
		return false, e
	}
	return isDark(h, a, b), api.OK
}

func moveError(h api.ScanHead, a, b api.ScanDirection) api.Errno {
	return firstError(headError(h), directionError(a), directionError(b))
}

func moveTicks(h api.ScanHead, a, b api.ScanDirection) int {
	turn, lift := distances(a, b)
	return ticksFor(h.Azimuth, turn) + ticksFor(h.Elevation, lift)
}

func isDark(h api.ScanHead, a, b api.ScanDirection) bool {
	_, isLit := firstReserved(h, a, b)
	return !isLit
}

// firstReserved returns the first reserved direction on the way of a move, and whether there is one.
func firstReserved(h api.ScanHead, a, b api.ScanDirection) (api.ScanDirection, bool) {
	for d := range wayOf(a, b) {
		if isReserved(h, d) {
			return d, true
		}
	}
	return api.ScanDirection{}, false
}

// wayOf yields the directions of the way from a to b.
func wayOf(a, b api.ScanDirection) iter.Seq[api.ScanDirection] {
	return func(yield func(api.ScanDirection) bool) {
		at := a
		for yield(at) && at != b {
			at = stepTowards(at, b)
		}
	}
}

// stepTowards is for two directions that differ. No step makes the other way round the shorter one.
func stepTowards(at, b api.ScanDirection) api.ScanDirection {
	up := upwards(at.Azimuth, b.Azimuth)
	switch {
	case up > api.ScanTurn/2:
		at.Azimuth = (at.Azimuth + api.ScanTurn - 1) % api.ScanTurn
	case up > 0:
		at.Azimuth = (at.Azimuth + 1) % api.ScanTurn
	case at.Elevation < b.Elevation:
		at.Elevation++
	default:
		at.Elevation--
	}
	return at
}

// distances returns the numbers of steps in azimuth, the shorter way round, and in elevation.
func distances(a, b api.ScanDirection) (turn, lift int) {
	turn = min(upwards(a.Azimuth, b.Azimuth), upwards(b.Azimuth, a.Azimuth))
	lift = max(a.Elevation-b.Elevation, b.Elevation-a.Elevation)
	return turn, lift
}

// upwards returns the number of steps from an azimuth to another one, always upwards.
func upwards(from, to int) int {
	return (to - from + api.ScanTurn) % api.ScanTurn
}
