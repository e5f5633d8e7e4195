package tower

import (
	"slices"

	"glidepath/api"
	"glidepath/shear"
)

// AlertsOn returns all alerts of a runway.
func AlertsOn(n api.TowerNet, l []api.TowerEntry, runway string) ([]api.ShearAlert, api.Errno) {
	a, i, e := replayedFor(n, l, runway)
	if e != api.OK {
		return nil, e
	}
	return shear.AlertsOf(a.Runways[i].Alert, a.Strips[i].Events)
}

// StandsOn returns whether an alert stands on a runway at a tick.
func StandsOn(n api.TowerNet, l []api.TowerEntry, x api.TowerLook) (bool, api.Errno) {
	a, i, e := replayedFor(n, l, x.Runway)
	if e := firstError(e, rangeError(x.At, 0, api.MaxTick)); e != api.OK {
		return false, e
	}
	return a.alertAt(i, x.At).Standing, api.OK
}

// BlindOn returns the stretches along a runway that no gate sees.
func BlindOn(n api.TowerNet, l []api.TowerEntry, runway string, gap int) ([]api.Range, api.Errno) {
	a, i, e := replayedFor(n, l, runway)
	if e != api.OK {
		return nil, e
	}
	return shear.BlindIn(a.Strips[i].Profile, api.Range{Hi: api.MaxShearAt}, gap)
}

func (a *airport) assess(c command) api.Errno {
	i := a.runwayNamed(c.words[0])
	if i < 0 {
		return api.ErrMissing
	}
	strip := &a.Strips[i]
	loss, e := shear.StrongestLoss(strip.Profile, a.Length)
	if e := firstError(e, errorIf(len(strip.Events) >= api.MaxShearEvents, api.ErrFull)); e != api.OK {
		return e
	}
	event := api.ShearEvent{At: c.At, Loss: loss.Change}
	next, e := shear.Next(a.Runways[i].Alert, strip.Alert, event)
	if e != api.OK {
		return e
	}
	if next.Number != strip.Alert.Number {
		strip.Known = nil
	}
	strip.Events, strip.Alert = append(strip.Events, event), next
	return api.OK
}

func (a *airport) acknowledge(c command) api.Errno {
	i := a.runwayNamed(c.words[0])
	if i < 0 {
		return api.ErrMissing
	}
	strip, alert := &a.Strips[i], a.alertAt(i, c.At)
	e := firstError(
		errorIf(!alert.Standing || alert.Number != c.number, api.ErrState),
		errorIf(slices.Contains(strip.Known, c.By), api.ErrDouble),
	)
	if e != api.OK {
		return e
	}
	strip.Known = append(strip.Known, c.By)
	return api.OK
}
