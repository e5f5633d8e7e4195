package shear

import "glidepath/api"

// watch is a state that follows events by a rule.
type watch struct {
	api.ShearRule
	api.ShearState
}

func newWatch(r api.ShearRule) watch {
	return watch{ShearRule: r, ShearState: api.ShearState{Heard: -1, Quiet: -1}}
}

// hear expects an event after all that were heard before.
func (w *watch) hear(x api.ShearEvent) {
	w.passTo(x.At)
	if w.Standing {
		w.listen(x)
	}
	if !w.Standing && x.Loss.Lo >= w.Raise {
		w.Standing, w.Since = true, x.At
		w.Number++
	}
	w.Heard = x.At
}

// passTo lets an alert expire that was not heard of for too long.
func (w *watch) passTo(tick int) {
	if w.Standing && tick-w.Heard > w.Timeout {
		w.end()
	}
}

// listen lets an alert become quiet, or end if it was quiet for long enough, or be loud again.
func (w *watch) listen(x api.ShearEvent) {
	if x.Loss.Hi >= w.Clear {
		w.Quiet = -1
		return
	}
	if w.Quiet == -1 {
		w.Quiet = x.At
	}
	if x.At-w.Quiet >= w.Hold {
		w.end()
	}
}

func (w *watch) end() {
	w.Standing, w.Since, w.Quiet = false, 0, -1
}
