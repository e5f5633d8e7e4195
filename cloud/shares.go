package cloud

import "glidepath/api"

// Undone returns the shares of all gates of a profile.
func Undone(l []int, constant int) ([]api.Frac, api.Errno) {
	if e := firstError(profileError(l), constantError(constant)); e != api.OK {
		return nil, e
	}
	p := profile(l)
	if e := p.breakError(constant); e != api.OK {
		return nil, e
	}
	return p.shares(constant), api.OK
}

// UndoneIn returns the spans of the shares of all gates for a range of constants.
func UndoneIn(l []int, constant api.Range) ([]api.Span, api.Errno) {
	if e := firstError(
		profileError(l),
		constantError(constant.Lo),
		constantError(constant.Hi),
		errorIf(constant.Lo > constant.Hi, api.ErrOrder),
	); e != api.OK {
		return nil, e
	}
	p := profile(l)
	if e := p.breakError(constant.Lo); e != api.OK {
		return nil, e
	}
	least, most := p.shares(constant.Hi), p.shares(constant.Lo)
	spans := make([]api.Span, len(l))
	for gate := range spans {
		spans[gate] = api.Span{Lo: least[gate], Hi: most[gate]}
	}
	return spans, api.OK
}

// Attenuated returns the signals of shares.
func Attenuated(shares []api.Frac, constant int) ([]api.Frac, api.Errno) {
	_, e := filledError(shares, api.MaxCloudGates, func(_ []api.Frac, x api.Frac) api.Errno {
		return partError(x)
	})
	if e := firstError(e, constantError(constant)); e != api.OK {
		return nil, e
	}
	signals := make([]api.Frac, len(shares))
	rest := api.Frac{Num: constant, Den: 1}
	for gate, share := range shares {
		signal, e := product(share, rest)
		if e != api.OK {
			return nil, e
		}
		signals[gate] = signal
		rest = restAfter(rest, share, signal)
	}
	return signals, api.OK
}

// breakError looks at the last gate alone, because no gate makes the rest greater. A greater
// constant has no error if a smaller one has none.
func (p profile) breakError(constant int) api.Errno {
	return errorIf(p.sum() > constant || p.restBefore(len(p)-1, constant) == 0, api.ErrBreak)
}

// shares expects a constant without a breakError.
func (p profile) shares(constant int) []api.Frac {
	shares := make([]api.Frac, len(p))
	for gate, signal := range p {
		shares[gate] = lowest(signal, p.restBefore(gate, constant))
	}
	return shares
}

// restAfter computes the rest from the signal, whose parts are at most MaxPart, where it can: the
// rest itself has parts up to the square of this.
func restAfter(before, share, signal api.Frac) api.Frac {
	if share.Num == 0 {
		return before
	}
	return lowest(signal.Num*(share.Den-share.Num), signal.Den*share.Num)
}
