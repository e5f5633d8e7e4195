package pulse_test

import (
	"math"
	"reflect"
	"slices"
	"testing"

	"glidepath/api"
	"glidepath/pulse"
)

const mostSum = 1000000000000

// P1.3
func TestCorrelationOf(t *testing.T) {
	for lag, want := range []api.Gauss{{Re: 6}, {Im: -1}, {Re: 2}, {}} {
		if z, e := pulse.CorrelationOf(three(), lag); e != api.OK || z != want {
			t.Error(lag, z, e)
		}
	}
	two := []api.Gauss{{Re: 2, Im: 3}, {Re: 5, Im: -7}}
	if z, e := pulse.CorrelationOf(two, 1); e != api.OK || z != (api.Gauss{Re: -11, Im: -29}) {
		t.Error(z, e)
	}
	if z, e := pulse.CorrelationOf(two, 48); e != api.OK || z != (api.Gauss{}) {
		t.Error(z, e)
	}
	if z, e := pulse.CorrelationOf(re(slices.Repeat([]int{1000}, 48)...), 47); e != api.OK || z != (api.Gauss{Re: 1000000}) {
		t.Error(z, e)
	}
	for _, x := range badBlocks {
		for _, lag := range []int{1, -1} {
			z, e := pulse.CorrelationOf(x.block, lag)
			expectOnly(t, "block", z, e, x.want)
		}
	}
	for _, lag := range []int{-1, 49, math.MinInt, math.MaxInt} {
		z, e := pulse.CorrelationOf(three(), lag)
		expectOnly(t, "lag", z, e, api.ErrRange)
	}
}

// badSums are sums with their errors, and the indexes of these.
var badSums = []struct {
	sum   api.PulseSum
	index int
	want  api.Errno
}{
	{api.PulseSum{}, 0, api.ErrShape},
	{api.PulseSum{Lags: []api.Gauss{}, Tail: re(1), Count: -1}, 0, api.ErrShape},
	{api.PulseSum{Lags: make([]api.Gauss, 13), Count: -1}, 0, api.ErrLarge},
	{api.PulseSum{Lags: re(slices.Repeat([]int{-mostSum - 1}, 13)...)}, 0, api.ErrLarge},
	{api.PulseSum{Lags: re(0, mostSum, mostSum+1), Count: -1}, 2, api.ErrRange},
	{api.PulseSum{Lags: re(0, -mostSum-1, math.MinInt)}, 1, api.ErrRange},
	{api.PulseSum{Lags: []api.Gauss{{Im: mostSum + 1}}}, 0, api.ErrRange},
	{api.PulseSum{Lags: []api.Gauss{{}, {Im: -mostSum - 1}}}, 1, api.ErrRange},
	{api.PulseSum{Lags: []api.Gauss{{}, {Im: math.MinInt}}}, 1, api.ErrRange},
	{api.PulseSum{Lags: re(0, 0), Count: -1, Tail: re(2000, 1)}, 0, api.ErrRange},
	{api.PulseSum{Lags: re(0, 0), Count: mostSum + 1}, 0, api.ErrRange},
	{api.PulseSum{Lags: re(0, 0), Count: math.MinInt}, 0, api.ErrRange},
	{api.PulseSum{Lags: re(0, 0), Count: 1}, 0, api.ErrShape},
	{api.PulseSum{Lags: re(0, 0), Tail: re(2000)}, 0, api.ErrShape},
	{api.PulseSum{Lags: re(0), Tail: re(1), Count: 1}, 0, api.ErrShape},
	{api.PulseSum{Lags: re(0, 0, 0), Tail: re(1, 1, 1), Count: 3}, 0, api.ErrShape},
	{api.PulseSum{Lags: re(0, 0, 0), Tail: re(1), Count: 3}, 0, api.ErrShape},
	{api.PulseSum{Lags: re(0, 0, 0, 0), Tail: re(1, 1, 1), Count: 2}, 0, api.ErrShape},
	{api.PulseSum{Lags: re(0, 0), Tail: re(1001), Count: 1}, 0, api.ErrRange},
	{api.PulseSum{Lags: re(0, 0, 0, 0), Tail: re(1000, -1000, -1001), Count: 9}, 2, api.ErrRange},
	{api.PulseSum{Lags: re(0, 0, 0), Tail: []api.Gauss{{}, {Im: math.MinInt}}, Count: 9}, 1, api.ErrRange},
}

// P1.3
func TestCheckSum(t *testing.T) {
	for _, x := range badSums {
		if i, e := pulse.CheckSum(x.sum); i != x.index || e != x.want {
			t.Error(x.sum, i, e)
		}
	}
	for _, s := range []api.PulseSum{
		{Lags: re(0)},
		{Lags: re(0), Tail: []api.Gauss{}, Count: mostSum},
		{Lags: make([]api.Gauss, 12), Tail: make([]api.Gauss, 11), Count: mostSum},
		{Lags: make([]api.Gauss, 12), Tail: make([]api.Gauss, 11), Count: 11},
		{Lags: make([]api.Gauss, 12), Tail: make([]api.Gauss, 10), Count: 10},
		{Lags: []api.Gauss{{Re: mostSum, Im: -mostSum}, {Re: -mostSum, Im: mostSum}}, Tail: []api.Gauss{{Re: -1000, Im: 1000}}, Count: 1},
	} {
		if i, e := pulse.CheckSum(s); i != 0 || e != api.OK {
			t.Error(s, i, e)
		}
	}
}

func sameSum(a, b api.PulseSum) bool {
	return same(a.Lags, b.Lags) && same(a.Tail, b.Tail) && a.Count == b.Count
}

// P1.3
func TestAdded(t *testing.T) {
	for _, x := range []struct {
		sum   api.PulseSum
		piece []api.Gauss
		want  api.PulseSum
	}{
		{
			api.PulseSum{Lags: make([]api.Gauss, 3)},
			three()[:1],
			api.PulseSum{Lags: re(1, 0, 0), Tail: re(1), Count: 1},
		},
		{
			api.PulseSum{Lags: re(1, 0, 0), Tail: re(1), Count: 1},
			three()[1:],
			api.PulseSum{Lags: []api.Gauss{{Re: 6}, {Im: -1}, {Re: 2}}, Tail: three()[1:], Count: 3},
		},
		{
			api.PulseSum{Lags: re(7)},
			three(),
			api.PulseSum{Lags: re(13), Count: 3},
		},
		{
			api.PulseSum{Lags: re(10, 20, 30), Tail: re(2, 3), Count: 100},
			re(5),
			api.PulseSum{Lags: re(35, 35, 40), Tail: re(3, 5), Count: 101},
		},
		{
			api.PulseSum{Lags: re(mostSum-4, 0), Tail: re(1), Count: mostSum - 1},
			re(2),
			api.PulseSum{Lags: re(mostSum, 2), Tail: re(2), Count: mostSum},
		},
		{
			// Within the piece the lag 1 would be too great: only its end counts.
			api.PulseSum{Lags: re(0, mostSum), Tail: re(1), Count: 5},
			re(1, -1),
			api.PulseSum{Lags: re(2, mostSum), Tail: re(-1), Count: 7},
		},
	} {
		if s, e := pulse.Added(x.sum, x.piece); e != api.OK || !sameSum(s, x.want) {
			t.Error(x, s, e)
		}
	}
}

func TestAddedErrors(t *testing.T) {
	for _, x := range badSums {
		for _, piece := range [][]api.Gauss{re(1), nil} {
			s, e := pulse.Added(x.sum, piece)
			expectOnly(t, "sum", s, e, x.want)
		}
	}
	for _, x := range badBlocks {
		s, e := pulse.Added(api.PulseSum{Lags: re(mostSum), Count: mostSum}, x.block)
		expectOnly(t, "piece", s, e, x.want)
	}
	for _, x := range []struct {
		sum   api.PulseSum
		piece []api.Gauss
	}{
		{api.PulseSum{Lags: re(0), Count: mostSum}, re(0)},
		{api.PulseSum{Lags: re(0), Count: mostSum - 2}, three()},
		{api.PulseSum{Lags: re(mostSum - 3)}, re(2)},
		{api.PulseSum{Lags: re(0, -mostSum), Tail: re(1), Count: 1}, re(-1)},
		{api.PulseSum{Lags: []api.Gauss{{}, {Im: mostSum}}, Tail: re(1), Count: 1}, []api.Gauss{{Im: 1}}},
		{api.PulseSum{Lags: []api.Gauss{{}, {Im: -mostSum}}, Tail: re(1), Count: 1}, []api.Gauss{{Im: -1}}},
	} {
		s, e := pulse.Added(x.sum, x.piece)
		expectOnly(t, "break", s, e, api.ErrBreak)
	}
}

// P1.8
func TestCutOtherwise(t *testing.T) {
	n := numbers{81}
	for range 200 {
		stream := n.block(n.from(1, 48), 1000)
		start := api.PulseSum{Lags: make([]api.Gauss, n.from(1, api.MaxPulseLags))}
		whole, e := pulse.Added(start, stream)
		expect(t, "whole", e, api.OK)
		pieces := start
		for rest := stream; len(rest) > 0; {
			cut := n.from(1, len(rest))
			pieces, e = pulse.Added(pieces, rest[:cut])
			expect(t, "piece", e, api.OK)
			rest = rest[cut:]
		}
		if !sameSum(whole, pieces) || whole.Count != len(stream) {
			t.Fatal(stream, whole, pieces)
		}
		for lag, z := range whole.Lags {
			if want, e := pulse.CorrelationOf(stream, lag); e != api.OK || z != want {
				t.Fatal(stream, lag, z, want)
			}
		}
		newest := min(len(stream), len(start.Lags)-1)
		if !same(whole.Tail, stream[len(stream)-newest:]) {
			t.Fatal(stream, whole.Tail)
		}
	}
}

// P1.3
func TestSpectrumBy(t *testing.T) {
	for _, x := range []struct {
		sum  api.PulseSum
		want [4]int
	}{
		{api.PulseSum{Lags: []api.Gauss{{Re: 6}, {Im: -1}, {Re: 2}}, Tail: three()[1:], Count: 3}, [4]int{10, 0, 10, 4}},
		{api.PulseSum{Lags: []api.Gauss{{Re: 6}, {Im: -1}, {Re: 2}, {}}, Tail: three(), Count: 3}, [4]int{10, 0, 10, 4}},
		{api.PulseSum{Lags: re(25), Count: 1}, [4]int{25, 25, 25, 25}},
		{api.PulseSum{Lags: re(0, 0)}, [4]int{}},
		{api.PulseSum{Lags: []api.Gauss{{Re: 1, Im: 9}, {}, {}, {}, {Re: 1, Im: 9}, {Re: 10, Im: 100}}}, [4]int{23, 203, -17, -197}},
	} {
		if p, e := pulse.SpectrumBy(x.sum); e != api.OK || p != x.want {
			t.Error(x.sum, p, e)
		}
	}
	for _, x := range badSums {
		p, e := pulse.SpectrumBy(x.sum)
		expectOnly(t, "sum", p, e, x.want)
	}
	p, e := pulse.SpectrumBy(api.PulseSum{Lags: re(1, 0), Tail: re(1), Count: 3})
	expectOnly(t, "open", p, e, api.ErrOpen)
	p, e = pulse.SpectrumBy(api.PulseSum{Lags: re(1), Count: 2})
	expectOnly(t, "open", p, e, api.ErrOpen)
}

// P1.9
func TestTwoWays(t *testing.T) {
	n := numbers{9}
	for range 200 {
		block := n.block(n.from(1, api.MaxPulseLags), 1000)
		powers, e := pulse.PowersOf(block)
		expect(t, "powers", e, api.OK)
		sum, e := pulse.Added(api.PulseSum{Lags: make([]api.Gauss, n.from(len(block), api.MaxPulseLags))}, block)
		expect(t, "sum", e, api.OK)
		if by, e := pulse.SpectrumBy(sum); e != api.OK || by != powers {
			t.Fatal(block, powers, by, e)
		}
		folded := make([]api.Gauss, 4)
		for j, z := range block {
			folded[j%4] = api.Gauss{Re: folded[j%4].Re + z.Re, Im: folded[j%4].Im + z.Im}
		}
		if powers[0]+powers[1]+powers[2]+powers[3] != 4*energy(folded) {
			t.Fatal(block, powers)
		}
	}
}

// R3
func TestMemory(t *testing.T) {
	sum := api.PulseSum{Lags: re(1, 0, 0), Tail: re(1), Count: 1}
	piece := three()
	added, _ := pulse.Added(sum, piece)
	added.Tail[0], added.Lags[0] = api.Gauss{Re: 9}, api.Gauss{Re: 9}
	if !reflect.DeepEqual(sum, api.PulseSum{Lags: re(1, 0, 0), Tail: re(1), Count: 1}) || !same(piece, three()) {
		t.Error(sum, piece)
	}
	mixed, _ := pulse.MixedDown(piece, 0)
	mixed[0].Re = 9
	cut, _ := pulse.GateOf(gates(0, 1, 1, 1, 1), piece, 0)
	cut[0].Re = 9
	if !same(piece, three()) {
		t.Error(piece)
	}
	polynomial := []int{0, 1, 2}
	rows, _ := pulse.LockRows(polynomial)
	rows[0][0] = 9
	again, _ := pulse.LockRows(polynomial)
	if !same(polynomial, []int{0, 1, 2}) || !same(again, [][]int{{0, 1, 2}, {2, 4}, {12}}) {
		t.Error(polynomial, again)
	}
}
