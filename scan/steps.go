package scan

import (
	"slices"

	"glidepath/api"
)

// CheckSteps returns the error of a program, with the index of the step that it concerns.
func CheckSteps(l []api.ScanStep) (int, api.Errno) {
	if i, e := stepsError(l, 0); e != api.OK {
		return i, e
	}
	return 0, errorIf(stopCount(l) > api.MaxScanStops, api.ErrLarge)
}

// Compiled returns the stops of a program.
func Compiled(l []api.ScanStep) ([]api.ScanStop, api.Errno) {
	if e := programError(l); e != api.OK {
		return nil, e
	}
	return compiled(l), api.OK
}

func programError(l []api.ScanStep) api.Errno {
	_, e := CheckSteps(l)
	return e
}

// stepsError returns the error of the steps that stand in a number of repeats.
func stepsError(l []api.ScanStep, repeats int) (int, api.Errno) {
	return listError(l, api.MaxScanSteps, func(x api.ScanStep) api.Errno { return stepError(x, repeats) })
}

// stepError looks into a body last: only then it is known that there are not too many repeats.
func stepError(x api.ScanStep, repeats int) api.Errno {
	isRepeat := x.Kind == api.ScanRepeat
	e := firstError(
		errorIf(x.Kind < 0 || x.Kind >= api.ScanKinds, api.ErrKind),
		errorIf(fieldsOf(x) != usedOf(x) || !isRepeat && len(x.Body) > 0, api.ErrForm),
		numbersError(x),
		errorIf(isRepeat && repeats == api.MaxScanDepth, api.ErrFull),
	)
	if e != api.OK || !isRepeat {
		return e
	}
	_, e = stepsError(x.Body, repeats+1)
	return e
}

// fields are those of a step that can be compared.
type fields struct {
	direction            api.ScanDirection
	to, by, ticks, times int
}

func fieldsOf(x api.ScanStep) fields {
	return fields{x.Direction, x.To, x.By, x.Ticks, x.Times}
}

// usedOf returns the fields of a step, 0 where its kind does not use them.
func usedOf(x api.ScanStep) fields {
	switch x.Kind {
	case api.ScanPoint:
		return fields{direction: x.Direction, ticks: x.Ticks}
	case api.ScanSweep:
		return fields{direction: x.Direction, to: x.To, by: x.By, ticks: x.Ticks}
	}
	return fields{times: x.Times}
}

func numbersError(x api.ScanStep) api.Errno {
	if x.Kind == api.ScanRepeat {
		return rangeError(x.Times, 1, api.MaxScanTimes)
	}
	e := firstError(directionError(x.Direction), rangeError(x.Ticks, 0, api.MaxScanTicks))
	if e != api.OK || x.Kind == api.ScanPoint {
		return e
	}
	return firstError(azimuthError(x.To), rangeError(x.By, 1, api.ScanTurn))
}

// stopCount does not write the stops out, because without errors of the steps there may still
// be millions.
func stopCount(l []api.ScanStep) int {
	count := 0
	for _, x := range l {
		switch x.Kind {
		case api.ScanPoint:
			count++
		case api.ScanSweep:
			count += sweepCount(x)
		case api.ScanRepeat:
			count += x.Times * stopCount(x.Body)
		}
	}
	return count
}

func sweepCount(x api.ScanStep) int {
	return upwards(x.Direction.Azimuth, x.To)/x.By + 1
}

func compiled(l []api.ScanStep) []api.ScanStop {
	var stops []api.ScanStop
	for _, x := range l {
		stops = append(stops, stopsOf(x)...)
	}
	return stops
}

func stopsOf(x api.ScanStep) []api.ScanStop {
	switch x.Kind {
	case api.ScanRepeat:
		return slices.Repeat(compiled(x.Body), x.Times)
	case api.ScanSweep:
		stops := make([]api.ScanStop, sweepCount(x))
		for i := range stops {
			d := x.Direction
			d.Azimuth = (d.Azimuth + i*x.By) % api.ScanTurn
			stops[i] = api.ScanStop{Direction: d, Ticks: x.Ticks}
		}
		return stops
	}
	return []api.ScanStop{{Direction: x.Direction, Ticks: x.Ticks}}
}
