package tower

import (
	"iter"
	"slices"
	"strings"

	"glidepath/api"
	"glidepath/shear"
)

// airport is a valid net with a valid log, and the state after it. An entry that is refused
// changes nothing.
type airport struct {
	api.TowerNet
	api.TowerState
	log   []api.TowerEntry
	texts map[string]text
}

// place is the index of a strip, and that of one of its arrivals.
type place struct{ strip, arrival int }

// newAirport reads the net, but never changes it.
func newAirport(n api.TowerNet) *airport {
	a := airport{TowerNet: n, texts: textsByWord()}
	for _, runway := range n.Runways {
		first, _ := shear.StateAt(runway.Alert, nil, 0)
		a.Strips = append(a.Strips, api.TowerStrip{Alert: first})
	}
	return &a
}

// enter appends an entry to the log, or returns its error.
func (a *airport) enter(x api.TowerEntry) api.Errno {
	person := a.personNamed(x.By)
	e := firstError(
		errorIf(len(a.log) >= api.MaxTowerEntries, api.ErrLarge),
		errorIf(person < 0, api.ErrMissing),
		rangeError(x.At, 0, api.MaxTick),
		errorIf(x.At < a.now(), api.ErrOrder),
		errorIf(len(x.Text) > api.MaxTowerText, api.ErrLarge),
		errorIf(!isPrintable(x.Text), api.ErrForm),
	)
	if e != api.OK {
		return e
	}
	first, _, _ := strings.Cut(x.Text, " ")
	known, isKnown := a.texts[first]
	c, isOfForm := commandIn(x, known.kinds, x.Text[len(first):])
	e = firstError(
		errorIf(!isKnown, api.ErrSyntax),
		errorIf(a.People[person].Role < known.role, api.ErrAllowed),
		errorIf(!isOfForm, api.ErrSyntax),
	)
	if e != api.OK {
		return e
	}
	if e := known.effect(a, c); e != api.OK {
		return e
	}
	a.log = append(a.log, x)
	return api.OK
}

// now is the tick of the last entry.
func (a *airport) now() int {
	if len(a.log) == 0 {
		return 0
	}
	return a.log[len(a.log)-1].At
}

// personNamed returns the index of a person, -1 if there is none.
func (a *airport) personNamed(name string) int {
	return slices.IndexFunc(a.People, func(x api.TowerPerson) bool { return x.Name == name })
}

// runwayNamed returns the index of a runway, which is that of its strip, -1 if there is none.
func (a *airport) runwayNamed(name string) int {
	return slices.IndexFunc(a.Runways, func(x api.TowerRunway) bool { return x.Name == name })
}

// lidarNamed returns the index of a lidar, -1 if there is none.
func (a *airport) lidarNamed(name string) int {
	return slices.IndexFunc(a.Lidars, func(x api.TowerLidar) bool { return x.Name == name })
}

// arrivalNamed returns where an arrival is, and whether there is one.
func (a *airport) arrivalNamed(name string) (place, bool) {
	for p, x := range a.arrivals() {
		if x.Name == name {
			return p, true
		}
	}
	return place{}, false
}

// arrivals yields the arrivals of all strips.
func (a *airport) arrivals() iter.Seq2[place, api.SpacingArrival] {
	return func(yield func(place, api.SpacingArrival) bool) {
		for i, strip := range a.Strips {
			for k, x := range strip.Arrivals {
				if !yield(place{strip: i, arrival: k}, x) {
					return
				}
			}
		}
	}
}

// alertAt returns the state of the alert of a runway at a tick.
func (a *airport) alertAt(runway, tick int) api.ShearState {
	state, _ := shear.StateAt(a.Runways[runway].Alert, a.Strips[runway].Events, tick)
	return state
}

// problemOf returns the problem of a strip, which shares its memory.
func (a *airport) problemOf(strip int) api.SpacingProblem {
	s := a.Strips[strip]
	return api.SpacingProblem{Rule: a.Rule, Arrivals: s.Arrivals, Free: s.Free}
}
