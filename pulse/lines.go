package pulse

import "glidepath/api"

// LinesOf returns the four lines of numbers.
func LinesOf(l []api.Gauss) ([4]api.Gauss, api.Errno) {
	if e := blockError(l); e != api.OK {
		return [4]api.Gauss{}, e
	}
	return linesOf(l), api.OK
}

// PowersOf returns the powers of the four lines of numbers.
func PowersOf(l []api.Gauss) ([4]int, api.Errno) {
	if e := blockError(l); e != api.OK {
		return [4]int{}, e
	}
	return linesOf(l).powers(), api.OK
}

// SpectrumOf returns the powers of a gate, added up over all blocks.
func SpectrumOf(g api.PulseGates, blocks [][]api.Gauss, gate int) ([4]int, api.Errno) {
	_, blocksError := itemError(blocks, blockError)
	_, gapError := itemError(blocks, func(l []api.Gauss) api.Errno { return openError(g, l, gate) })
	e := firstError(
		gatesError(g),
		errorIf(len(blocks) > api.MaxPulseBlocks, api.ErrLarge),
		blocksError,
		gateError(g, gate),
		gapError,
	)
	if e != api.OK {
		return [4]int{}, e
	}
	var spectrum [4]int
	for _, l := range blocks {
		powers := linesOf(weighted(l, firstIndex(g, gate), g.Weights)).powers()
		for k := range spectrum {
			spectrum[k] += powers[k]
		}
	}
	return spectrum, api.OK
}

// Cleaned returns the powers without background, times both numbers of pulses, so that they stay whole.
func Cleaned(a, background api.PulseCount) ([4]int, api.Errno) {
	if e := firstError(countError(a), countError(background)); e != api.OK {
		return [4]int{}, e
	}
	var cleaned [4]int
	for k := range cleaned {
		cleaned[k] = a.Powers[k]*background.Pulses - background.Powers[k]*a.Pulses
	}
	return cleaned, api.OK
}

// MixedDown returns samples mixed down by quarters of a turn.
func MixedDown(l []api.Gauss, quarters int) ([]api.Gauss, api.Errno) {
	if e := firstError(blockError(l), rangeError(quarters, 0, 3)); e != api.OK {
		return nil, e
	}
	mixed := make([]api.Gauss, len(l))
	for j, z := range l {
		mixed[j] = turned(z, j*quarters)
	}
	return mixed, api.OK
}

func countError(c api.PulseCount) api.Errno {
	_, powersError := itemError(c.Powers[:], numberError(0, api.MaxPulsePower))
	return firstError(rangeError(c.Pulses, 1, api.MaxPulseCount), powersError)
}

type lines [4]api.Gauss

// linesOf does not check its numbers: those of a gate may be greater than those of a block.
func linesOf(l []api.Gauss) lines {
	var sums lines
	for j, z := range l {
		sums = sums.with(j, z)
	}
	return sums
}

func (sums lines) with(index int, z api.Gauss) lines {
	for k := range sums {
		sums[k] = plus(sums[k], turned(z, index*k))
	}
	return sums
}

func (sums lines) powers() [4]int {
	var powers [4]int
	for k, z := range sums {
		powers[k] = powerOf(z)
	}
	return powers
}

// turned multiplies by powers of -i, so that it stays whole.
func turned(z api.Gauss, quarters int) api.Gauss {
	switch quarters % 4 {
	case 1:
		return api.Gauss{Re: z.Im, Im: -z.Re}
	case 2:
		return api.Gauss{Re: -z.Re, Im: -z.Im}
	case 3:
		return api.Gauss{Re: -z.Im, Im: z.Re}
	}
	return z
}

func plus(a, b api.Gauss) api.Gauss {
	return api.Gauss{Re: a.Re + b.Re, Im: a.Im + b.Im}
}

func conjugateTimes(a, b api.Gauss) api.Gauss {
	return api.Gauss{Re: a.Re*b.Re + a.Im*b.Im, Im: a.Re*b.Im - a.Im*b.Re}
}

func powerOf(z api.Gauss) int {
	return z.Re*z.Re + z.Im*z.Im
}

func energyOf(l []api.Gauss) int {
	energy := 0
	for _, z := range l {
		energy += powerOf(z)
	}
	return energy
}
