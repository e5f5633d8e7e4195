package pulse_test

import (
	"math"
	"reflect"
	"slices"
	"testing"

	"glidepath/api"
)

// numbers is a short rule for values that look arbitrary and are the same in every run.
type numbers struct{ state uint64 }

func (n *numbers) from(least, most int) int {
	n.state = n.state*6364136223846793005 + 1442695040888963407
	return least + int(n.state>>33)%(most-least+1)
}

func (n *numbers) block(length, size int) []api.Gauss {
	l := make([]api.Gauss, length)
	for i := range l {
		l[i] = api.Gauss{Re: n.from(-size, size), Im: n.from(-size, size)}
	}
	return l
}

func (n *numbers) gates() api.PulseGates {
	g := api.PulseGates{First: n.from(0, 6), Hop: n.from(1, 6), Count: n.from(1, 6), Weights: make([]int, n.from(1, 6))}
	for j := range g.Weights {
		g.Weights[j] = n.from(0, 9)
	}
	return g
}

func re(l ...int) []api.Gauss {
	block := make([]api.Gauss, len(l))
	for i, x := range l {
		block[i] = api.Gauss{Re: x}
	}
	return block
}

// three is 1, i, 2.
func three() []api.Gauss { return []api.Gauss{{Re: 1}, {Im: 1}, {Re: 2}} }

// seven is 1, i, 2, 0, -1, 3, 1.
func seven() []api.Gauss {
	return []api.Gauss{{Re: 1}, {Im: 1}, {Re: 2}, {}, {Re: -1}, {Re: 3}, {Re: 1}}
}

func gates(first, hop, count int, weights ...int) api.PulseGates {
	return api.PulseGates{First: first, Hop: hop, Count: count, Weights: weights}
}

// badBlocks are blocks with their errors, and the indexes of these.
var badBlocks = []struct {
	block []api.Gauss
	index int
	want  api.Errno
}{
	{nil, 0, api.ErrShape},
	{[]api.Gauss{}, 0, api.ErrShape},
	{make([]api.Gauss, 49), 0, api.ErrLarge},
	{re(slices.Repeat([]int{2000}, 49)...), 0, api.ErrLarge},
	{re(1001), 0, api.ErrRange},
	{re(0, -1000, -1001, 1001), 2, api.ErrRange},
	{[]api.Gauss{{}, {Im: 1001}}, 1, api.ErrRange},
	{[]api.Gauss{{Im: -1000}, {}, {}, {Im: -1001}}, 3, api.ErrRange},
	{re(0, math.MinInt), 1, api.ErrRange},
	{[]api.Gauss{{Im: math.MinInt}}, 0, api.ErrRange},
	{re(math.MaxInt), 0, api.ErrRange},
}

// badGates are gates with their errors, and the indexes of these.
var badGates = []struct {
	gates api.PulseGates
	index int
	want  api.Errno
}{
	{gates(-1, 1, 1, 1), 0, api.ErrRange},
	{gates(49, 1, 1, 1), 0, api.ErrRange},
	{gates(0, 0, 1, 1), 0, api.ErrRange},
	{gates(0, 49, 1, 1), 0, api.ErrRange},
	{gates(0, 1, 0, 1), 0, api.ErrRange},
	{gates(0, 1, 21, 1), 0, api.ErrRange},
	{gates(-1, 1, 1), 0, api.ErrRange},
	{gates(math.MinInt, math.MaxInt, math.MaxInt), 0, api.ErrRange},
	{gates(0, 1, 1), 0, api.ErrShape},
	{api.PulseGates{Hop: 1, Count: 1, Weights: []int{}}, 0, api.ErrShape},
	{gates(0, 1, 1, make([]int, 17)...), 0, api.ErrLarge},
	{gates(0, 1, 1, slices.Repeat([]int{-1}, 17)...), 0, api.ErrLarge},
	{gates(0, 1, 1, -1), 0, api.ErrRange},
	{gates(0, 1, 1, 0, 100, 101, -1), 2, api.ErrRange},
	{gates(0, 1, 1, 1, math.MinInt), 1, api.ErrRange},
}

// same is for slices, of which nil and empty ones are the same.
func same[T any](a, b []T) bool {
	return len(a) == 0 && len(b) == 0 || reflect.DeepEqual(a, b)
}

func expect(t *testing.T, what string, got, want api.Errno) {
	t.Helper()
	if got != want {
		t.Errorf("%s: error %d, want %d", what, got, want)
	}
}

// expectOnly is for results with an error, which are zero.
func expectOnly(t *testing.T, what string, result any, got, want api.Errno) {
	t.Helper()
	expect(t, what, got, want)
	v := reflect.ValueOf(result)
	if v.Kind() == reflect.Slice && v.Len() == 0 {
		return
	}
	if !v.IsZero() {
		t.Errorf("%s: %v together with an error", what, result)
	}
}
