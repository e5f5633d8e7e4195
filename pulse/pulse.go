// Package pulse works with the mixed samples of coherent pulses, as whole complex numbers:
// gates, lines and spectra, correlations in pieces, folded speeds and locked loops.
// It decides exactly. Chapter 1, doc/01-pulse.md, specifies it.
package pulse

import (
	"iter"

	"glidepath/api"
)

// CheckBlock returns the error of a block, with the index of the sample that it concerns.
func CheckBlock(l []api.Gauss) (int, api.Errno) {
	return listError(l, api.MaxPulseSamples, partsError(api.MaxPulsePart))
}

// CheckGates returns the error of gates, with the index of the weight that it concerns.
func CheckGates(g api.PulseGates) (int, api.Errno) {
	e := firstError(
		rangeError(g.First, 0, api.MaxPulseSamples),
		rangeError(g.Hop, 1, api.MaxPulseSamples),
		rangeError(g.Count, 1, api.MaxPulseGates),
	)
	if e != api.OK {
		return 0, e
	}
	return listError(g.Weights, api.MaxPulseLength, numberError(0, api.MaxPulseWeight))
}

// GateOf returns the weighted samples of a gate of a block.
func GateOf(g api.PulseGates, l []api.Gauss, gate int) ([]api.Gauss, api.Errno) {
	e := firstError(gatesError(g), blockError(l), gateError(g, gate), openError(g, l, gate))
	if e != api.OK {
		return nil, e
	}
	return weighted(l, firstIndex(g, gate), g.Weights), api.OK
}

// GatesWith returns the gates to which a sample belongs.
func GatesWith(g api.PulseGates, index int) ([]int, api.Errno) {
	e := firstError(gatesError(g), rangeError(index, 0, api.MaxPulseSamples-1))
	if e != api.OK {
		return nil, e
	}
	var with []int
	for gate, first := range gatesOf(g) {
		if first <= index && index < first+len(g.Weights) {
			with = append(with, gate)
		}
	}
	return with, api.OK
}

// ClippedIn returns the indexes of the samples that are clipped for a limit.
func ClippedIn(l []api.Gauss, limit int) ([]int, api.Errno) {
	e := firstError(blockError(l), rangeError(limit, 1, api.MaxPulsePart))
	if e != api.OK {
		return nil, e
	}
	var clipped []int
	for i, z := range l {
		if max(z.Re, -z.Re, z.Im, -z.Im) >= limit {
			clipped = append(clipped, i)
		}
	}
	return clipped, api.OK
}

// EnergyIn returns the energies of a gate under jitter.
func EnergyIn(g api.PulseGates, l []api.Gauss, x api.PulseJitter) (api.Range, api.Errno) {
	e := firstError(
		gatesError(g),
		blockError(l),
		gateError(g, x.Gate),
		rangeError(x.Off, 0, api.MaxPulseJitter),
	)
	if e != api.OK {
		return api.Range{}, e
	}
	first := firstIndex(g, x.Gate)
	energy := energyOf(weighted(l, first, g.Weights))
	energies := api.Range{Lo: energy, Hi: energy}
	for shift := -x.Off; shift <= x.Off; shift++ {
		energy = energyOf(weighted(l, first+shift, g.Weights))
		energies.Lo = min(energies.Lo, energy)
		energies.Hi = max(energies.Hi, energy)
	}
	return energies, api.OK
}

func blockError(l []api.Gauss) api.Errno {
	_, e := CheckBlock(l)
	return e
}

func gatesError(g api.PulseGates) api.Errno {
	_, e := CheckGates(g)
	return e
}

func gateError(g api.PulseGates, gate int) api.Errno {
	return errorIf(gate < 0 || gate >= g.Count, api.ErrMissing)
}

func openError(g api.PulseGates, l []api.Gauss, gate int) api.Errno {
	return errorIf(firstIndex(g, gate)+len(g.Weights) > len(l), api.ErrOpen)
}

func firstIndex(g api.PulseGates, gate int) int {
	return g.First + gate*g.Hop
}

// gatesOf yields each gate with the index of its first sample.
func gatesOf(g api.PulseGates) iter.Seq2[int, int] {
	return func(yield func(gate, first int) bool) {
		for gate := range g.Count {
			if !yield(gate, firstIndex(g, gate)) {
				return
			}
		}
	}
}

// weighted takes samples beyond the block as 0, because a shifted pulse may leave a gate.
func weighted(l []api.Gauss, first int, weights []int) []api.Gauss {
	samples := make([]api.Gauss, len(weights))
	for j, weight := range weights {
		if i := first + j; i >= 0 && i < len(l) {
			samples[j] = api.Gauss{Re: weight * l[i].Re, Im: weight * l[i].Im}
		}
	}
	return samples
}
