package pulse_test

import (
	"math"
	"slices"
	"testing"

	"glidepath/api"
	"glidepath/pulse"
)

// P1.1
func TestCheckBlock(t *testing.T) {
	for _, x := range badBlocks {
		if i, e := pulse.CheckBlock(x.block); i != x.index || e != x.want {
			t.Error(x.block, i, e)
		}
	}
	for _, l := range [][]api.Gauss{
		re(0),
		{{Re: 1000, Im: -1000}, {Re: -1000, Im: 1000}},
		re(slices.Repeat([]int{1000}, 48)...),
	} {
		if i, e := pulse.CheckBlock(l); i != 0 || e != api.OK {
			t.Error(l, i, e)
		}
	}
}

// P1.1
func TestCheckGates(t *testing.T) {
	for _, x := range badGates {
		if i, e := pulse.CheckGates(x.gates); i != x.index || e != x.want {
			t.Error(x.gates, i, e)
		}
	}
	for _, g := range []api.PulseGates{
		gates(0, 1, 1, 0),
		gates(48, 48, 20, 100),
		gates(1, 2, 3, slices.Repeat([]int{100}, 16)...),
	} {
		if i, e := pulse.CheckGates(g); i != 0 || e != api.OK {
			t.Error(g, i, e)
		}
	}
}

// P1.1
func TestGateOf(t *testing.T) {
	for _, x := range []struct {
		gates api.PulseGates
		gate  int
		want  []api.Gauss
	}{
		{gates(1, 2, 3, 1, 2), 0, []api.Gauss{{Im: 1}, {Re: 4}}},
		{gates(1, 2, 3, 1, 2), 1, []api.Gauss{{}, {Re: -2}}},
		{gates(1, 2, 3, 1, 2), 2, re(3, 2)},
		{gates(0, 1, 2, 1, 1, 1), 0, three()},
		{gates(0, 1, 2, 1, 0, 3), 1, []api.Gauss{{Im: 1}, {}, {}}},
		{gates(6, 48, 20, 100), 0, re(100)},
	} {
		if l, e := pulse.GateOf(x.gates, seven(), x.gate); e != api.OK || !same(l, x.want) {
			t.Error(x, l, e)
		}
	}
	l, e := pulse.GateOf(gates(0, 1, 1, 100), []api.Gauss{{Re: 1000, Im: -1000}}, 0)
	if e != api.OK || !same(l, []api.Gauss{{Re: 100000, Im: -100000}}) {
		t.Error(l, e)
	}
}

func TestGateOfErrors(t *testing.T) {
	for _, x := range badGates {
		l, e := pulse.GateOf(x.gates, nil, -1)
		expectOnly(t, "gates", l, e, x.want)
		l, e = pulse.GateOf(x.gates, seven(), 0)
		expectOnly(t, "gates alone", l, e, x.want)
	}
	for _, x := range badBlocks {
		l, e := pulse.GateOf(gates(1, 2, 3, 1, 2), x.block, -1)
		expectOnly(t, "block", l, e, x.want)
	}
	for _, gate := range []int{-1, 3, math.MinInt, math.MaxInt} {
		l, e := pulse.GateOf(gates(1, 2, 3, 1, 2), seven(), gate)
		expectOnly(t, "gate", l, e, api.ErrMissing)
	}
	for _, g := range []api.PulseGates{gates(1, 2, 3, 1, 2, 3), gates(0, 3, 4, 0), gates(48, 1, 3, 1)} {
		l, e := pulse.GateOf(g, seven()[:6], g.Count-1)
		expectOnly(t, "open", l, e, api.ErrOpen)
	}
}

// P1.1
func TestGatesWith(t *testing.T) {
	for _, x := range []struct {
		gates api.PulseGates
		index int
		want  []int
	}{
		{gates(1, 2, 3, 1, 2), 0, nil},
		{gates(1, 2, 3, 1, 2), 3, []int{1}},
		{gates(1, 2, 3, 1, 2), 6, []int{2}},
		{gates(1, 2, 3, 1, 2), 7, nil},
		{gates(1, 2, 3, 1, 2, 3), 3, []int{0, 1}},
		{gates(1, 2, 3, 0, 0, 0), 3, []int{0, 1}},
		{gates(0, 3, 4, 1, 1), 5, nil},
		{gates(0, 1, 20, make([]int, 16)...), 17, []int{2, 3, 4, 5, 6, 7, 8, 9, 10, 11, 12, 13, 14, 15, 16, 17}},
		{gates(47, 1, 1, 1), 47, []int{0}},
	} {
		if l, e := pulse.GatesWith(x.gates, x.index); e != api.OK || !same(l, x.want) {
			t.Error(x, l, e)
		}
	}
	for _, x := range badGates {
		for _, index := range []int{1, -1} {
			l, e := pulse.GatesWith(x.gates, index)
			expectOnly(t, "gates", l, e, x.want)
		}
	}
	for _, index := range []int{-1, 48, math.MinInt, math.MaxInt} {
		l, e := pulse.GatesWith(gates(1, 2, 3, 1), index)
		expectOnly(t, "index", l, e, api.ErrRange)
	}
}

// P1.11
func TestEachSampleInItsGates(t *testing.T) {
	n := numbers{11}
	for range 200 {
		g := n.gates()
		for index := range api.MaxPulseSamples {
			var want []int
			for gate := range g.Count {
				first := g.First + gate*g.Hop
				if first <= index && first > index-len(g.Weights) {
					want = append(want, gate)
				}
			}
			if l, e := pulse.GatesWith(g, index); e != api.OK || !same(l, want) {
				t.Fatal(g, index, l, e)
			}
		}
	}
}

// P1.4
func TestClippedIn(t *testing.T) {
	for _, x := range []struct {
		block []api.Gauss
		limit int
		want  []int
	}{
		{seven(), 2, []int{2, 5}},
		{seven(), 1, []int{0, 1, 2, 4, 5, 6}},
		{seven(), 4, nil},
		{[]api.Gauss{{Re: -5}, {Re: 4, Im: 4}, {Im: -5}, {Im: 5}, {Re: 6, Im: 1}}, 5, []int{0, 2, 3, 4}},
		{[]api.Gauss{{Re: 999, Im: -999}, {Im: -1000}}, 1000, []int{1}},
	} {
		if l, e := pulse.ClippedIn(x.block, x.limit); e != api.OK || !same(l, x.want) {
			t.Error(x, l, e)
		}
	}
	for _, x := range badBlocks {
		for _, limit := range []int{1, 0} {
			l, e := pulse.ClippedIn(x.block, limit)
			expectOnly(t, "block", l, e, x.want)
		}
	}
	for _, limit := range []int{0, 1001, math.MinInt, math.MaxInt} {
		l, e := pulse.ClippedIn(seven(), limit)
		expectOnly(t, "limit", l, e, api.ErrRange)
	}
}

// P1.4
func TestEnergyIn(t *testing.T) {
	for _, x := range []struct {
		gates  api.PulseGates
		jitter api.PulseJitter
		want   api.Range
	}{
		{gates(1, 2, 3, 1, 2), api.PulseJitter{Off: 1}, api.Range{Lo: 4, Hi: 17}},
		{gates(1, 2, 3, 1, 2), api.PulseJitter{}, api.Range{Lo: 17, Hi: 17}},
		{gates(1, 2, 3, 1, 2), api.PulseJitter{Gate: 2}, api.Range{Lo: 13, Hi: 13}},
		{gates(1, 2, 3, 1, 2), api.PulseJitter{Gate: 2, Off: 1}, api.Range{Lo: 1, Hi: 37}},
		{gates(0, 1, 1, 3), api.PulseJitter{Off: 1}, api.Range{Lo: 0, Hi: 9}},
		{gates(0, 1, 1, 1), api.PulseJitter{Off: 8}, api.Range{Lo: 0, Hi: 9}},
		{gates(6, 2, 2, 1, 1), api.PulseJitter{}, api.Range{Lo: 1, Hi: 1}},
		{gates(6, 2, 2, 1, 1), api.PulseJitter{Gate: 1}, api.Range{}},
		{gates(48, 48, 20, 1, 1), api.PulseJitter{Gate: 19, Off: 8}, api.Range{}},
	} {
		if r, e := pulse.EnergyIn(x.gates, seven(), x.jitter); e != api.OK || r != x.want {
			t.Error(x, r, e)
		}
	}
	full := re(slices.Repeat([]int{1000}, 16)...)
	for i := range full {
		full[i].Im = -1000
	}
	r, e := pulse.EnergyIn(gates(0, 1, 1, slices.Repeat([]int{100}, 16)...), full, api.PulseJitter{Off: 8})
	if e != api.OK || r != (api.Range{Lo: 160000000000, Hi: 320000000000}) {
		t.Error(r, e)
	}
}

func TestEnergyInErrors(t *testing.T) {
	for _, x := range badGates {
		r, e := pulse.EnergyIn(x.gates, nil, api.PulseJitter{Gate: -1})
		expectOnly(t, "gates", r, e, x.want)
		r, e = pulse.EnergyIn(x.gates, seven(), api.PulseJitter{})
		expectOnly(t, "gates alone", r, e, x.want)
	}
	for _, x := range badBlocks {
		r, e := pulse.EnergyIn(gates(1, 2, 3, 1, 2), x.block, api.PulseJitter{Gate: -1})
		expectOnly(t, "block", r, e, x.want)
	}
	for _, gate := range []int{-1, 3, math.MinInt, math.MaxInt} {
		r, e := pulse.EnergyIn(gates(1, 2, 3, 1, 2), seven(), api.PulseJitter{Gate: gate, Off: -1})
		expectOnly(t, "gate", r, e, api.ErrMissing)
	}
	for _, off := range []int{-1, 9, math.MinInt, math.MaxInt} {
		r, e := pulse.EnergyIn(gates(1, 2, 3, 1, 2), seven(), api.PulseJitter{Off: off})
		expectOnly(t, "off", r, e, api.ErrRange)
	}
}

// P1.12
func TestJitter(t *testing.T) {
	n := numbers{12}
	for range 300 {
		g, l := n.gates(), n.block(n.from(1, 20), 50)
		gate := n.from(0, g.Count-1)
		before, e := pulse.EnergyIn(g, l, api.PulseJitter{Gate: gate})
		if e != api.OK || before.Lo != before.Hi {
			t.Fatal(g, l, before, e)
		}
		if samples, e := pulse.GateOf(g, l, gate); e == api.OK {
			if energy := energy(samples); energy != before.Lo {
				t.Fatal(g, l, energy, before)
			}
		}
		for off := 1; off <= api.MaxPulseJitter; off++ {
			r, e := pulse.EnergyIn(g, l, api.PulseJitter{Gate: gate, Off: off})
			if e != api.OK || r.Lo > before.Lo || r.Hi < before.Hi {
				t.Fatal(g, l, off, r, before, e)
			}
			before = r
		}
	}
}

func energy(l []api.Gauss) int {
	sum := 0
	for _, z := range l {
		sum += z.Re*z.Re + z.Im*z.Im
	}
	return sum
}
