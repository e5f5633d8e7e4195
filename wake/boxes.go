package wake

import "glidepath/api"

// CheckBox returns the error of a box.
func CheckBox(b api.WakeBox) api.Errno {
	return firstError(
		endsError(-api.MaxWakeEnd, api.MaxWakeEnd, b.Y),
		endsError(0, api.MaxWakeEnd, b.Z),
		endsError(0, api.MaxWakeStrength, b.Strength),
		orderError(b.Y, b.Z, b.Strength),
	)
}

// BoxAfter returns the smallest box of all vortices to which paths lead in some ticks.
func BoxAfter(b api.WakeBox, d api.WakeDrift, ticks int) (api.WakeBox, api.Errno) {
	e := firstError(CheckBox(b), driftError(d), rangeError(ticks, 0, api.MaxWakeTicks))
	if e != api.OK {
		return api.WakeBox{}, e
	}
	return boxAfter(b, d, ticks), api.OK
}

// CheckPath returns why vortices are not a path, with the index of the vortex that it concerns.
func CheckPath(b api.WakeBox, d api.WakeDrift, l []api.WakeVortex) (int, api.Errno) {
	if e := firstError(CheckBox(b), driftError(d), errorIf(len(l) == 0, api.ErrShape)); e != api.OK {
		return 0, e
	}
	within := b
	return listError(l, api.MaxWakeTicks+1, func(v api.WakeVortex) api.Errno {
		here := boxOf(v)
		e := errorIf(!isWithin(here, within), api.ErrProof)
		within = boxAfter(here, d, 1)
		return e
	})
}

// MeetOf returns the box of all vortices that lie in both.
func MeetOf(a, b api.WakeBox) (api.WakeBox, api.Errno) {
	if e := firstError(CheckBox(a), CheckBox(b)); e != api.OK {
		return api.WakeBox{}, e
	}
	both := meetOf(a, b)
	if isEmpty(both) {
		return api.WakeBox{}, api.ErrClash
	}
	return both, api.OK
}

func driftError(d api.WakeDrift) api.Errno {
	return firstError(
		endsError(-api.MaxWakeSpeed, api.MaxWakeSpeed, d.Side),
		endsError(0, api.MaxWakeSpeed, d.Sink, d.Decay),
		orderError(d.Side, d.Sink, d.Decay),
	)
}

// rangesOf points into the box, so that each of its ranges can also be set.
func rangesOf(b *api.WakeBox) [3]*api.Range {
	return [3]*api.Range{&b.Y, &b.Z, &b.Strength}
}

// boxOf is the box of a single vortex.
func boxOf(v api.WakeVortex) api.WakeBox {
	return api.WakeBox{
		Y:        api.Range{Lo: v.At.Y, Hi: v.At.Y},
		Z:        api.Range{Lo: v.At.Z, Hi: v.At.Z},
		Strength: api.Range{Lo: v.Strength, Hi: v.Strength},
	}
}

func boxAfter(b api.WakeBox, d api.WakeDrift, ticks int) api.WakeBox {
	return api.WakeBox{
		Y:        api.Range{Lo: b.Y.Lo + ticks*d.Side.Lo, Hi: b.Y.Hi + ticks*d.Side.Hi},
		Z:        lessened(b.Z, d.Sink, ticks),
		Strength: lessened(b.Strength, d.Decay, ticks),
	}
}

// lessened returns what is left of a range: nothing sinks or decays below 0.
func lessened(r, by api.Range, ticks int) api.Range {
	return api.Range{Lo: max(0, r.Lo-ticks*by.Hi), Hi: max(0, r.Hi-ticks*by.Lo)}
}

func isWithin(inner, outer api.WakeBox) bool {
	around := rangesOf(&outer)
	for i, r := range rangesOf(&inner) {
		if r.Lo < around[i].Lo || r.Hi > around[i].Hi {
			return false
		}
	}
	return true
}

// meetOf is empty if no vortex lies in both.
func meetOf(a, b api.WakeBox) api.WakeBox {
	others := rangesOf(&b)
	for i, r := range rangesOf(&a) {
		r.Lo = max(r.Lo, others[i].Lo)
		r.Hi = min(r.Hi, others[i].Hi)
	}
	return a
}

func isEmpty(b api.WakeBox) bool {
	return orderError(b.Y, b.Z, b.Strength) != api.OK
}
