package shear

import "glidepath/api"

// CheckRule returns the error of a rule.
func CheckRule(r api.ShearRule) api.Errno {
	return firstError(
		rangeError(r.Raise, 1, api.MaxShearLoss),
		rangeError(r.Clear, 0, api.MaxShearLoss),
		rangeError(r.Hold, 0, api.MaxShearHold),
		rangeError(r.Timeout, 1, api.MaxShearHold),
		errorIf(r.Clear > r.Raise, api.ErrOrder),
	)
}

// CheckState returns the error of a state.
func CheckState(s api.ShearState) api.Errno {
	return firstError(
		rangeError(s.Number, 0, api.MaxShearNumber),
		rangeError(s.Since, 0, api.MaxTick),
		rangeError(s.Heard, -1, api.MaxTick),
		rangeError(s.Quiet, -1, api.MaxTick),
		errorIf(!isPossible(s), api.ErrForm),
	)
}

// Next returns the state after an event.
func Next(r api.ShearRule, s api.ShearState, e api.ShearEvent) (api.ShearState, api.Errno) {
	wrong := firstError(
		CheckRule(r),
		CheckState(s),
		eventError(e),
		errorIf(e.At <= s.Heard, api.ErrOrder),
	)
	if wrong != api.OK {
		return api.ShearState{}, wrong
	}
	w := watch{ShearRule: r, ShearState: s}
	w.hear(e)
	if w.Number > api.MaxShearNumber {
		return api.ShearState{}, api.ErrFull
	}
	return w.ShearState, api.OK
}

// CheckEvents returns the error of events, with the index of the one that it concerns.
func CheckEvents(l []api.ShearEvent) (int, api.Errno) {
	orderError := ascending()
	return listError(l, api.MaxShearEvents, func(x api.ShearEvent) api.Errno {
		return firstError(eventError(x), orderError(x.At))
	})
}

// StateAt returns the state at a tick, after all events up to it.
func StateAt(r api.ShearRule, l []api.ShearEvent, tick int) (api.ShearState, api.Errno) {
	e := firstError(CheckRule(r), eventsError(l), rangeError(tick, 0, api.MaxTick))
	if e != api.OK {
		return api.ShearState{}, e
	}
	w := newWatch(r)
	for _, x := range l {
		if x.At <= tick {
			w.hear(x)
		}
	}
	w.passTo(tick)
	return w.ShearState, api.OK
}

// AlertsOf returns all alerts that events issue.
func AlertsOf(r api.ShearRule, l []api.ShearEvent) ([]api.ShearAlert, api.Errno) {
	if e := firstError(CheckRule(r), eventsError(l)); e != api.OK {
		return nil, e
	}
	var alerts []api.ShearAlert
	w := newWatch(r)
	for _, x := range l {
		w.passTo(x.At)
		stood := w.Standing
		w.hear(x)
		if w.Standing && !stood {
			alerts = append(alerts, api.ShearAlert{Number: w.Number, From: w.Since})
		}
		if w.Standing {
			// Until another event is heard, this one is the last.
			alerts[len(alerts)-1].To = w.Heard + w.Timeout
		} else if stood {
			alerts[len(alerts)-1].To = x.At - 1
		}
	}
	return alerts, api.OK
}

func isPossible(s api.ShearState) bool {
	if !s.Standing {
		return s.Since == 0 && s.Quiet == -1
	}
	return s.Number > 0 && s.Since <= s.Heard && s.Quiet <= s.Heard && (s.Quiet == -1 || s.Quiet >= s.Since)
}

func eventError(x api.ShearEvent) api.Errno {
	return firstError(
		rangeError(x.At, 0, api.MaxTick),
		endsError(-api.MaxShearLoss, api.MaxShearLoss, x.Loss),
	)
}

func eventsError(l []api.ShearEvent) api.Errno {
	_, e := CheckEvents(l)
	return e
}
