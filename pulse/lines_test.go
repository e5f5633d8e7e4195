package pulse_test

import (
	"math"
	"slices"
	"testing"

	"glidepath/api"
	"glidepath/pulse"
)

// P1.2
func TestLinesOf(t *testing.T) {
	for _, x := range []struct {
		block  []api.Gauss
		lines  [4]api.Gauss
		powers [4]int
	}{
		{three(), [4]api.Gauss{{Re: 3, Im: 1}, {}, {Re: 3, Im: -1}, {Re: -2}}, [4]int{10, 0, 10, 4}},
		{[]api.Gauss{{Re: 3, Im: -2}}, [4]api.Gauss{{Re: 3, Im: -2}, {Re: 3, Im: -2}, {Re: 3, Im: -2}, {Re: 3, Im: -2}}, [4]int{13, 13, 13, 13}},
		{re(0, 0, 0, 1), [4]api.Gauss{{Re: 1}, {Im: 1}, {Re: -1}, {Im: -1}}, [4]int{1, 1, 1, 1}},
		{re(0, 0, 0, 0, 0, 2), [4]api.Gauss{{Re: 2}, {Im: -2}, {Re: -2}, {Im: 2}}, [4]int{4, 4, 4, 4}},
		{[]api.Gauss{{Re: 1}, {Im: 1}, {Re: -1}, {Im: -1}}, [4]api.Gauss{{}, {Re: 4}, {}, {}}, [4]int{0, 16, 0, 0}},
	} {
		if l, e := pulse.LinesOf(x.block); e != api.OK || l != x.lines {
			t.Error(x.block, l, e)
		}
		if p, e := pulse.PowersOf(x.block); e != api.OK || p != x.powers {
			t.Error(x.block, p, e)
		}
	}
	for _, x := range badBlocks {
		l, e := pulse.LinesOf(x.block)
		expectOnly(t, "lines", l, e, x.want)
		p, e := pulse.PowersOf(x.block)
		expectOnly(t, "powers", p, e, x.want)
	}
}

// P1.2
func TestSpectrumOf(t *testing.T) {
	g := gates(1, 2, 3, 1, 2)
	for _, x := range []struct {
		blocks [][]api.Gauss
		gate   int
		want   [4]int
	}{
		{nil, 2, [4]int{}},
		{[][]api.Gauss{}, 0, [4]int{}},
		{[][]api.Gauss{seven()}, 0, [4]int{17, 9, 17, 25}},
		{[][]api.Gauss{seven(), re(0, 1, 1)}, 0, [4]int{26, 14, 18, 30}},
		{[][]api.Gauss{seven(), seven()}, 2, [4]int{50, 26, 2, 26}},
	} {
		if p, e := pulse.SpectrumOf(g, x.blocks, x.gate); e != api.OK || p != x.want {
			t.Error(x, p, e)
		}
	}
	full := slices.Repeat([][]api.Gauss{re(slices.Repeat([]int{1000}, 16)...)}, 12)
	p, e := pulse.SpectrumOf(gates(0, 1, 1, slices.Repeat([]int{100}, 16)...), full, 0)
	if e != api.OK || p != [4]int{12 * 1600000 * 1600000, 0, 0, 0} {
		t.Error(p, e)
	}
}

func TestSpectrumOfErrors(t *testing.T) {
	g := gates(1, 2, 3, 1, 2)
	for _, x := range badGates {
		p, e := pulse.SpectrumOf(x.gates, make([][]api.Gauss, 13), -1)
		expectOnly(t, "gates", p, e, x.want)
		p, e = pulse.SpectrumOf(x.gates, nil, 0)
		expectOnly(t, "gates alone", p, e, x.want)
	}
	p, e := pulse.SpectrumOf(g, make([][]api.Gauss, 13), -1)
	expectOnly(t, "blocks", p, e, api.ErrLarge)
	for _, x := range badBlocks {
		p, e := pulse.SpectrumOf(g, [][]api.Gauss{re(1), x.block, re(2000)}, -1)
		expectOnly(t, "block", p, e, x.want)
	}
	for _, gate := range []int{-1, 3, math.MinInt, math.MaxInt} {
		p, e := pulse.SpectrumOf(g, [][]api.Gauss{re(1)}, gate)
		expectOnly(t, "gate", p, e, api.ErrMissing)
		p, e = pulse.SpectrumOf(g, nil, gate)
		expectOnly(t, "gate without blocks", p, e, api.ErrMissing)
	}
	p, e = pulse.SpectrumOf(g, [][]api.Gauss{seven(), seven()[:6]}, 2)
	expectOnly(t, "open", p, e, api.ErrOpen)
}

// P1.8
func TestSpectraAddUp(t *testing.T) {
	n := numbers{8}
	for range 100 {
		g := n.gates()
		var blocks [][]api.Gauss
		for range n.from(0, api.MaxPulseBlocks) {
			blocks = append(blocks, n.block(48, 1000))
		}
		gate, cut := n.from(0, g.Count-1), n.from(0, len(blocks))
		all, e := pulse.SpectrumOf(g, blocks, gate)
		expect(t, "all", e, api.OK)
		a, e := pulse.SpectrumOf(g, blocks[:cut], gate)
		expect(t, "before", e, api.OK)
		b, e := pulse.SpectrumOf(g, blocks[cut:], gate)
		expect(t, "after", e, api.OK)
		for k := range all {
			if all[k] != a[k]+b[k] {
				t.Fatal(all, a, b)
			}
		}
	}
}

// P1.2
func TestCleaned(t *testing.T) {
	for _, x := range []struct {
		a, background api.PulseCount
		want          [4]int
	}{
		{
			api.PulseCount{Pulses: 10, Powers: [4]int{100, 60, 50, 40}},
			api.PulseCount{Pulses: 2, Powers: [4]int{8, 8, 8, 8}},
			[4]int{120, 40, 20, 0},
		},
		{
			api.PulseCount{Pulses: 1, Powers: [4]int{0, 1, 2, 3}},
			api.PulseCount{Pulses: 3, Powers: [4]int{5, 0, 7, 9}},
			[4]int{-5, 3, -1, 0},
		},
		{
			api.PulseCount{Pulses: 1000, Powers: [4]int{0, 1000000000000, 0, 0}},
			api.PulseCount{Pulses: 1000, Powers: [4]int{1000000000000, 0, 0, 0}},
			[4]int{-1000000000000000, 1000000000000000, 0, 0},
		},
	} {
		if p, e := pulse.Cleaned(x.a, x.background); e != api.OK || p != x.want {
			t.Error(x, p, e)
		}
	}
	for _, bad := range []api.PulseCount{
		{},
		{Pulses: -1},
		{Pulses: 1001},
		{Pulses: math.MinInt},
		{Pulses: 1, Powers: [4]int{-1, 0, 0, 0}},
		{Pulses: 1, Powers: [4]int{0, 0, 0, -1}},
		{Pulses: 1, Powers: [4]int{0, 0, 0, 1000000000001}},
		{Pulses: 1, Powers: [4]int{0, math.MinInt, math.MaxInt, 0}},
	} {
		p, e := pulse.Cleaned(bad, api.PulseCount{Pulses: 1})
		expectOnly(t, "spectrum", p, e, api.ErrRange)
		p, e = pulse.Cleaned(api.PulseCount{Pulses: 1}, bad)
		expectOnly(t, "background", p, e, api.ErrRange)
	}
}

// P1.3
func TestMixedDown(t *testing.T) {
	ones := re(1, 1, 1, 1, 1)
	for quarters, want := range [][]api.Gauss{
		ones,
		{{Re: 1}, {Im: -1}, {Re: -1}, {Im: 1}, {Re: 1}},
		re(1, -1, 1, -1, 1),
		{{Re: 1}, {Im: 1}, {Re: -1}, {Im: -1}, {Re: 1}},
	} {
		if l, e := pulse.MixedDown(ones, quarters); e != api.OK || !same(l, want) {
			t.Error(quarters, l, e)
		}
	}
	l, e := pulse.MixedDown([]api.Gauss{{Re: 5, Im: 7}, {Re: 5, Im: 7}}, 1)
	if e != api.OK || !same(l, []api.Gauss{{Re: 5, Im: 7}, {Re: 7, Im: -5}}) {
		t.Error(l, e)
	}
	for _, x := range badBlocks {
		for _, quarters := range []int{1, -1} {
			l, e := pulse.MixedDown(x.block, quarters)
			expectOnly(t, "block", l, e, x.want)
		}
	}
	for _, quarters := range []int{-1, 4, math.MinInt, math.MaxInt} {
		l, e := pulse.MixedDown(ones, quarters)
		expectOnly(t, "quarters", l, e, api.ErrRange)
	}
}

// P1.10
func TestMixedThere(t *testing.T) {
	n := numbers{10}
	for range 100 {
		block, q := n.block(n.from(1, 48), 1000), n.from(0, 3)
		mixed, e := pulse.MixedDown(block, q)
		expect(t, "mixed", e, api.OK)
		back, e := pulse.MixedDown(mixed, (4-q)%4)
		if e != api.OK || !same(back, block) {
			t.Fatal(q, block, mixed, back)
		}
		lines, e := pulse.LinesOf(block)
		expect(t, "lines", e, api.OK)
		moved, e := pulse.LinesOf(mixed)
		expect(t, "moved", e, api.OK)
		for k := range lines {
			if lines[k] != moved[(k-q+4)%4] {
				t.Fatal(q, lines, moved)
			}
		}
	}
}
