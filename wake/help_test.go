package wake_test

import (
	"math"
	"reflect"
	"slices"
	"testing"

	"glidepath/api"
)

// draws is a short rule for values that look arbitrary and are the same in every run.
type draws struct{ state uint64 }

func (d *draws) from(least, most int) int {
	d.state = d.state*6364136223846793005 + 1442695040888963407
	return least + int(d.state>>33)%(most-least+1)
}

// ends are a range that is at most wide.
func (d *draws) ends(least, most, wide int) api.Range {
	lo := d.from(least, most)
	return api.Range{Lo: lo, Hi: min(most, lo+d.from(0, wide))}
}

func (d *draws) position(most int) api.WakePoint {
	return point(d.from(-most, most), d.from(0, most))
}

func (d *draws) vortex(most, strength int) api.WakeVortex {
	return api.WakeVortex{At: d.position(most), Strength: d.from(-strength, strength)}
}

func (d *draws) setup(most, core int) api.WakeSetup {
	return api.WakeSetup{Lidar: d.position(most), Core: d.from(1, core)}
}

func (d *draws) pair(most, half, strength int) api.WakePair {
	return api.WakePair{Centre: d.position(most), Half: d.from(1, half), Strength: d.from(1, strength)}
}

func (d *draws) readings(count, most, product int) []api.WakeReading {
	l := make([]api.WakeReading, count)
	for i := range l {
		l[i] = api.WakeReading{At: d.position(most), Product: d.from(-product, product)}
	}
	return l
}

func (d *draws) scan(most, strength int) []api.WakeVortex {
	l := make([]api.WakeVortex, d.from(0, 3))
	for i := range l {
		l[i] = d.vortex(most, strength)
	}
	return l
}

func (d *draws) matrix(rows, most int) [][]int {
	m := make([][]int, rows)
	for i := range m {
		m[i] = make([]int, rows)
		for j := range m[i] {
			m[i][j] = d.from(0, most)
		}
	}
	return m
}

// search is small, so that its pairs can be counted out.
func (d *draws) search(readings, product int) api.WakeSearch {
	x := api.WakeSearch{
		Y: d.ends(-20, 20, 4), Z: d.ends(0, 20, 4), Half: d.from(1, 9),
		Setup: d.setup(20, 20), Readings: d.readings(readings, 20, product),
	}
	strength := 0
	for range d.from(1, 4) {
		strength += d.from(1, 20)
		x.Strengths = append(x.Strengths, strength)
	}
	return x
}

func (d *draws) box(y, z, strength, wide int) api.WakeBox {
	return api.WakeBox{Y: d.ends(-y, y, wide), Z: d.ends(0, z, wide), Strength: d.ends(0, strength, wide)}
}

func (d *draws) drift(most, wide int) api.WakeDrift {
	return api.WakeDrift{Side: d.ends(-most, most, wide), Sink: d.ends(0, most, wide), Decay: d.ends(0, most, wide)}
}

// path draws a path of some vortices.
func (d *draws) path(b api.WakeBox, x api.WakeDrift, count int) []api.WakeVortex {
	v := vortex(d.from(b.Y.Lo, b.Y.Hi), d.from(b.Z.Lo, b.Z.Hi), d.from(b.Strength.Lo, b.Strength.Hi))
	l := []api.WakeVortex{v}
	for range count - 1 {
		v.At.Y += d.from(x.Side.Lo, x.Side.Hi)
		v.At.Z = max(0, v.At.Z-d.from(x.Sink.Lo, x.Sink.Hi))
		v.Strength = max(0, v.Strength-d.from(x.Decay.Lo, x.Decay.Hi))
		l = append(l, v)
	}
	return l
}

func ends(lo, hi int) api.Range { return api.Range{Lo: lo, Hi: hi} }

func point(y, z int) api.WakePoint { return api.WakePoint{Y: y, Z: z} }

func vortex(y, z, strength int) api.WakeVortex {
	return api.WakeVortex{At: point(y, z), Strength: strength}
}

func setup(y, z, core int) api.WakeSetup { return api.WakeSetup{Lidar: point(y, z), Core: core} }

func pair(y, z, half, strength int) api.WakePair {
	return api.WakePair{Centre: point(y, z), Half: half, Strength: strength}
}

func reading(y, z, product int) api.WakeReading {
	return api.WakeReading{At: point(y, z), Product: product}
}

func box(y, z, strength api.Range) api.WakeBox { return api.WakeBox{Y: y, Z: z, Strength: strength} }

func drift(side, sink, decay api.Range) api.WakeDrift {
	return api.WakeDrift{Side: side, Sink: sink, Decay: decay}
}

func corridor(y, z api.Range, limit, from, to int) api.WakeCorridor {
	return api.WakeCorridor{Y: y, Z: z, Limit: limit, From: from, To: to}
}

// s, p and searched are the setup, the pair and the search of the examples.
func s() api.WakeSetup { return setup(0, 0, 1) }

func p() api.WakePair { return pair(0, 10, 3, 10) }

func searched() api.WakeSearch {
	return api.WakeSearch{
		Y: ends(0, 1), Z: ends(10, 10), Half: 3, Strengths: []int{5, 10},
		Setup: s(), Readings: []api.WakeReading{reading(3, 14, 20)},
	}
}

// b and d are the box and the drift of the examples.
func b() api.WakeBox { return box(ends(0, 2), ends(10, 12), ends(8, 10)) }

func d() api.WakeDrift { return drift(ends(-1, 1), ends(1, 2), ends(0, 1)) }

// beyond are numbers that are not between two others.
func beyond(least, most int) []int {
	return []int{least - 1, most + 1, math.MinInt, math.MaxInt, least - 1<<32, most + 1<<32}
}

// outside are ranges with an end that is not between two numbers.
func outside(least, most int) []api.Range {
	return []api.Range{
		ends(least-1, least), ends(least, most+1), ends(most+1, least), ends(most, least-1), ends(least-1, most+1), ends(most+1, most+1),
		ends(least-1, least-1), ends(math.MinInt, most), ends(least, math.MaxInt), ends(math.MaxInt, math.MinInt), ends(math.MinInt, math.MinInt),
	}
}

// reversed are ranges between two numbers whose lower end is above the upper one.
func reversed(least, most int) []api.Range {
	return []api.Range{ends(most, least), ends(least+1, least), ends(most, most-1)}
}

// bad is a value with its error, and the index of the part that it concerns.
type bad[T any] struct {
	value T
	index int
	want  api.Errno
}

func badPositions() []api.WakePoint {
	var l []api.WakePoint
	for _, y := range beyond(-1000, 1000) {
		l = append(l, point(y, 0), point(y, -1))
	}
	for _, z := range beyond(0, 1000) {
		l = append(l, point(0, z), point(-1000, z))
	}
	return l
}

func badVortices() []api.WakeVortex {
	var l []api.WakeVortex
	for _, at := range badPositions() {
		l = append(l, api.WakeVortex{At: at, Strength: 1})
	}
	for _, x := range beyond(-10000, 10000) {
		l = append(l, vortex(-1000, 0, x), vortex(1000, 1000, x))
	}
	return l
}

func badSetups() []api.WakeSetup {
	var l []api.WakeSetup
	for _, at := range badPositions() {
		l = append(l, api.WakeSetup{Lidar: at, Core: 1})
	}
	for _, x := range beyond(1, 10000) {
		l = append(l, setup(-1000, 0, x), setup(1000, 1000, x))
	}
	return append(l, api.WakeSetup{})
}

func badPairs() []api.WakePair {
	l := []api.WakePair{{}}
	for _, at := range badPositions() {
		l = append(l, api.WakePair{Centre: at, Half: 1, Strength: 1})
	}
	for _, x := range beyond(1, 100) {
		l = append(l, pair(-1000, 0, x, 1), pair(1000, 1000, x, 10000))
	}
	for _, x := range beyond(1, 10000) {
		l = append(l, pair(-1000, 0, 1, x), pair(1000, 1000, 100, x))
	}
	return l
}

// badReadings are lists of readings with their errors.
func badReadings() []bad[[]api.WakeReading] {
	full := slices.Repeat([]api.WakeReading{reading(0, 0, 0)}, 13)
	l := []bad[[]api.WakeReading]{
		{full, 0, api.ErrLarge},
		{slices.Repeat([]api.WakeReading{reading(0, -1, 0)}, 13), 0, api.ErrLarge},
	}
	add := func(x api.WakeReading) {
		l = append(l,
			bad[[]api.WakeReading]{[]api.WakeReading{x}, 0, api.ErrRange},
			bad[[]api.WakeReading]{append(slices.Clone(full[:11]), x), 11, api.ErrRange},
		)
	}
	for _, at := range badPositions() {
		add(api.WakeReading{At: at})
	}
	for _, x := range beyond(-1000000000, 1000000000) {
		add(reading(1000, 1000, x))
	}
	return l
}

// badScans are vortices of a scan with their errors.
func badScans() []bad[[]api.WakeVortex] {
	l := []bad[[]api.WakeVortex]{
		{make([]api.WakeVortex, 4), 0, api.ErrLarge},
		{slices.Repeat([]api.WakeVortex{vortex(0, -1, 0)}, 4), 0, api.ErrLarge},
	}
	for _, v := range badVortices() {
		l = append(l,
			bad[[]api.WakeVortex]{[]api.WakeVortex{v}, 0, api.ErrRange},
			bad[[]api.WakeVortex]{[]api.WakeVortex{vortex(0, 0, 0), vortex(-1000, 1000, -10000), v}, 2, api.ErrRange},
		)
	}
	return l
}

// badMatrices have errors that are listed later, too, which must not count.
func badMatrices() []bad[[][]int] {
	l := []bad[[][]int]{
		{nil, 0, api.ErrShape},
		{[][]int{}, 0, api.ErrShape},
		{(&draws{1}).matrix(7, 9), 0, api.ErrLarge},
		{make([][]int, 7), 0, api.ErrLarge},
		{slices.Repeat([][]int{{-1}}, 7), 0, api.ErrLarge},
		{[][]int{nil}, 0, api.ErrShape},
		{[][]int{{1, 2}}, 0, api.ErrShape},
		{[][]int{{-1, 2}}, 0, api.ErrShape},
		{[][]int{{1, 2}, {3}}, 1, api.ErrShape},
		{[][]int{{1, 2}, {-1}}, 1, api.ErrShape},
		{[][]int{{1, 2}, {3, 4, 5}}, 1, api.ErrShape},
		{[][]int{{1, 2}, nil}, 1, api.ErrShape},
		{[][]int{{1, -2}, {3}}, 0, api.ErrRange},
		{[][]int{{1, 2, 3}, {4, 5, 6}, {}}, 2, api.ErrShape},
	}
	for _, x := range beyond(0, 10000000) {
		l = append(l,
			bad[[][]int]{[][]int{{x}}, 0, api.ErrRange},
			bad[[][]int]{[][]int{{1, 2}, {0, x}}, 1, api.ErrRange},
			bad[[][]int]{[][]int{{0, 10000000, 0}, {x, 0, 0}, {1, 2}}, 1, api.ErrRange},
		)
	}
	return l
}

func badBoxes() []bad[api.WakeBox] {
	var l []bad[api.WakeBox]
	add := func(want api.Errno, values ...api.WakeBox) {
		for _, x := range values {
			l = append(l, bad[api.WakeBox]{x, 0, want})
		}
	}
	for _, y := range outside(-1000000, 1000000) {
		add(api.ErrRange, box(y, ends(0, 0), ends(0, 0)), box(y, ends(1, 0), ends(0, 0)))
	}
	for _, z := range outside(0, 1000000) {
		add(api.ErrRange, box(ends(0, 0), z, ends(0, 0)), box(ends(1, 0), z, ends(1, 0)))
	}
	for _, strength := range outside(0, 10000) {
		add(api.ErrRange, box(ends(0, 0), ends(0, 0), strength), box(ends(1, 0), ends(1, 0), strength))
	}
	for _, y := range reversed(-1000000, 1000000) {
		add(api.ErrOrder, box(y, ends(0, 0), ends(0, 0)))
	}
	for _, z := range reversed(0, 1000000) {
		add(api.ErrOrder, box(ends(0, 0), z, ends(0, 0)))
	}
	for _, strength := range reversed(0, 10000) {
		add(api.ErrOrder, box(ends(0, 0), ends(0, 0), strength))
	}
	return l
}

func badDrifts() []bad[api.WakeDrift] {
	var l []bad[api.WakeDrift]
	add := func(want api.Errno, values ...api.WakeDrift) {
		for _, x := range values {
			l = append(l, bad[api.WakeDrift]{x, 0, want})
		}
	}
	for _, side := range outside(-100, 100) {
		add(api.ErrRange, drift(side, ends(0, 0), ends(0, 0)), drift(side, ends(1, 0), ends(0, 0)))
	}
	for _, other := range outside(0, 100) {
		add(api.ErrRange,
			drift(ends(0, 0), other, ends(0, 0)), drift(ends(1, 0), other, ends(1, 0)),
			drift(ends(0, 0), ends(0, 0), other), drift(ends(1, 0), ends(1, 0), other))
	}
	for _, side := range reversed(-100, 100) {
		add(api.ErrOrder, drift(side, ends(0, 0), ends(0, 0)))
	}
	for _, other := range reversed(0, 100) {
		add(api.ErrOrder, drift(ends(0, 0), other, ends(0, 0)), drift(ends(0, 0), ends(0, 0), other))
	}
	return l
}

func badCorridors() []bad[api.WakeCorridor] {
	var l []bad[api.WakeCorridor]
	add := func(want api.Errno, values ...api.WakeCorridor) {
		for _, x := range values {
			l = append(l, bad[api.WakeCorridor]{x, 0, want})
		}
	}
	for _, r := range outside(-1000000, 1000000) {
		add(api.ErrRange,
			corridor(r, ends(0, 0), 0, 0, 0), corridor(r, ends(1, 0), 0, 1, 0),
			corridor(ends(0, 0), r, 0, 0, 0), corridor(ends(1, 0), r, 0, 1, 0))
	}
	for _, x := range beyond(0, 10000) {
		add(api.ErrRange, corridor(ends(0, 0), ends(0, 0), x, 0, 0), corridor(ends(1, 0), ends(0, 0), x, 0, 0))
	}
	for _, x := range outside(0, 1000) {
		add(api.ErrRange, corridor(ends(0, 0), ends(0, 0), 0, x.Lo, x.Hi), corridor(ends(0, 0), ends(1, 0), 0, x.Lo, x.Hi))
	}
	for _, r := range reversed(-1000000, 1000000) {
		add(api.ErrOrder, corridor(r, ends(0, 0), 0, 0, 0), corridor(ends(0, 0), r, 0, 0, 0))
	}
	for _, x := range reversed(0, 1000) {
		add(api.ErrOrder, corridor(ends(0, 0), ends(0, 0), 0, x.Lo, x.Hi))
	}
	return l
}

// same is for slices, of which nil and empty ones are the same.
func same[T any](a, b []T) bool {
	return len(a) == 0 && len(b) == 0 || reflect.DeepEqual(a, b)
}

func expect(t *testing.T, what string, got, want api.Errno) {
	t.Helper()
	if got != want {
		t.Errorf("%s: error %d, want %d", what, got, want)
	}
}

// expectOnly is for results with an error, which are zero.
func expectOnly(t *testing.T, what string, result any, got, want api.Errno) {
	t.Helper()
	expect(t, what, got, want)
	v := reflect.ValueOf(result)
	if v.Kind() == reflect.Slice && v.Len() == 0 {
		return
	}
	if !v.IsZero() {
		t.Errorf("%s: %v together with an error", what, result)
	}
}
