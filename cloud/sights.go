package cloud

import "glidepath/api"

// blindness is a profile, and what makes gates of it blind.
type blindness struct {
	profile
	api.CloudBlind
}

// VisibilityOf returns the index of the first gate after which at most a part of the constant is
// left, or the number of gates.
func VisibilityOf(l []int, constant int, left api.Frac) (int, api.Errno) {
	p := profile(l)
	if e := firstError(
		profileError(l),
		constantError(constant),
		partError(left),
		errorIf(p.sum() > constant, api.ErrBreak),
	); e != api.OK {
		return 0, e
	}
	gate := 0
	for gate < len(p) && p.restBefore(gate+1, constant)*left.Den > left.Num*constant {
		gate++
	}
	return gate, api.OK
}

// BlindIn returns the largest ranges of neighbouring blind gates.
func BlindIn(l []int, x api.CloudBlind) ([]api.Range, api.Errno) {
	if e := firstError(
		profileError(l),
		rangeError(x.Gates, 0, api.MaxCloudGates),
		rangeError(x.Saturated, 1, api.MaxCloudSignal),
		partError(x.Least),
	); e != api.OK {
		return nil, e
	}
	b := blindness{profile(l), x}
	return rangesOf(len(l), 0, b.isBlind), api.OK
}

// LayersIn returns all layers of a profile.
func LayersIn(l []int, x api.CloudRule) ([]api.Range, api.Errno) {
	if e := firstError(
		profileError(l),
		rangeError(x.Floor, 1, api.MaxCloudSignal),
		rangeError(x.Gap, 0, api.MaxCloudGates),
		rangeError(x.Length, 1, api.MaxCloudGates),
	); e != api.OK {
		return nil, e
	}
	var layers []api.Range
	for _, r := range rangesOf(len(l), x.Gap, func(gate int) bool { return l[gate] >= x.Floor }) {
		if r.Hi-r.Lo+1 >= x.Length {
			layers = append(layers, r)
		}
	}
	return layers, api.OK
}

func (b blindness) isBlind(gate int) bool {
	constant := b.sum()
	isDark := b.restBefore(gate, constant)*b.Least.Den < b.Least.Num*constant
	return gate < b.Gates || b.profile[gate] >= b.Saturated || isDark
}

// rangesOf returns the largest ranges that begin and end with gates that are asked for, with at
// most so many neighbouring other ones between two of these.
func rangesOf(gates, gap int, isAsked func(gate int) bool) []api.Range {
	var l []api.Range
	for gate := range gates {
		if !isAsked(gate) {
			continue
		}
		if last := len(l) - 1; last >= 0 && gate-l[last].Hi-1 <= gap {
			l[last].Hi = gate
		} else {
			l = append(l, api.Range{Lo: gate, Hi: gate})
		}
	}
	return l
}
