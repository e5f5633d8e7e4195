package cloud_test

import (
	"math"
	"math/big"
	"reflect"
	"slices"
	"testing"

	"glidepath/api"
)

// draws is a short rule for values that look arbitrary and are the same in every run.
type draws struct{ state uint64 }

func (d *draws) from(least, most int) int {
	d.state = d.state*6364136223846793005 + 1442695040888963407
	return least + int(d.state>>33)%(most-least+1)
}

func (d *draws) list(count, least, most int) []int {
	l := make([]int, count)
	for i := range l {
		l[i] = d.from(least, most)
	}
	return l
}

// part is a fraction from 0 to 1 in lowest terms.
func (d *draws) part(most int) api.Frac {
	den := d.from(1, most)
	return lowest(d.from(0, den), den)
}

func (d *draws) shots(count, time, power int) []api.CloudShot {
	var l []api.CloudShot
	for range count {
		from := d.from(0, time-1)
		l = append(l, api.CloudShot{From: from, To: d.from(from+1, time), Power: d.from(0, power)})
	}
	return l
}

// profiles are of all lengths; many have equal signals, and signals of 0.
func profiles(seed uint64, count int) [][]int {
	draw := &draws{seed}
	var l [][]int
	for i := range count {
		l = append(l, draw.list(1+i%24, 0, []int{1, 3, 20, 10000}[i/24%4]))
	}
	return l
}

func frac(num, den int) api.Frac { return api.Frac{Num: num, Den: den} }

func lowest(num, den int) api.Frac {
	return fracOf(big.NewRat(int64(num), int64(den)))
}

func ratOf(x api.Frac) *big.Rat { return big.NewRat(int64(x.Num), int64(x.Den)) }

// fracOf expects parts that fit.
func fracOf(x *big.Rat) api.Frac {
	return frac(int(x.Num().Int64()), int(x.Denom().Int64()))
}

func sumOf(l []int) int {
	sum := 0
	for _, x := range l {
		sum += x
	}
	return sum
}

// ranges takes both ends, again and again.
func ranges(l ...int) []api.Range {
	var r []api.Range
	for i := 0; i < len(l); i += 2 {
		r = append(r, api.Range{Lo: l[i], Hi: l[i+1]})
	}
	return r
}

func shot(from, to, power int) api.CloudShot {
	return api.CloudShot{From: from, To: to, Power: power}
}

func layer(base, top, eighths int) api.CloudLayer {
	return api.CloudLayer{Base: base, Top: top, Eighths: eighths}
}

// one is the profile of the first example.
func one() []int { return []int{10, 0, 45, 45} }

// beyond are numbers that are not between two others.
func beyond(least, most int) []int {
	return []int{least - 1, most + 1, math.MinInt, math.MaxInt, least - 1<<32, most + 1<<32}
}

// bad is a value with its error, and the index of the part that it concerns.
type bad[T any] struct {
	value T
	index int
	want  api.Errno
}

func badProfiles() []bad[[]int] {
	l := []bad[[]int]{
		{nil, 0, api.ErrShape}, {[]int{}, 0, api.ErrShape},
		{make([]int, 25), 0, api.ErrLarge}, {slices.Repeat([]int{-1}, 25), 0, api.ErrLarge}, {make([]int, 100000), 0, api.ErrLarge},
		{[]int{0, -1, 10001}, 1, api.ErrRange}, {[]int{0, 10001, -1}, 1, api.ErrRange},
	}
	for _, x := range beyond(0, 10000) {
		l = append(l, bad[[]int]{[]int{x}, 0, api.ErrRange}, bad[[]int]{[]int{x, x, 5}, 0, api.ErrRange}, bad[[]int]{append(make([]int, 23), x), 23, api.ErrRange}, bad[[]int]{[]int{1, 10000, x, 0}, 2, api.ErrRange})
	}
	return l
}

func badConstants() []int { return beyond(1, 1000000) }

func badPenalties() []int { return beyond(0, 1000000) }

func badWindows() []int { return beyond(1, 1000000) }

// badParts have both errors sometimes: the form comes first.
func badParts() []bad[api.Frac] {
	var l []bad[api.Frac]
	for _, x := range []api.Frac{
		{}, frac(0, 2), frac(0, 1000000000), frac(2, 2), frac(2, 4), frac(500000000, 1000000000), frac(1, 0), frac(0, -1), frac(1, -1), frac(-1, -2), frac(1, -2),
		frac(6, 4), frac(-2, 4), frac(2000000000, 2000000000), frac(2, 2000000000), frac(0, math.MaxInt), frac(0, math.MinInt), frac(1, math.MinInt),
		frac(math.MinInt, math.MinInt), frac(math.MaxInt, math.MaxInt), frac(math.MinInt, 2), frac(math.MinInt, 0), frac(math.MinInt, -1), frac(1, -1000000007),
	} {
		l = append(l, bad[api.Frac]{x, 0, api.ErrForm})
	}
	for _, x := range []api.Frac{
		frac(-1, 1), frac(2, 1), frac(3, 2), frac(-1, 2), frac(1000000001, 1000000000), frac(-1, 1000000000), frac(1, 1000000001), frac(1000000000, 1000000001), frac(1, 1<<32),
		frac(1, math.MaxInt), frac(math.MaxInt, 1), frac(math.MinInt, 1), frac(math.MinInt, 3), frac(-3, 1<<32), frac(1<<32+1, 1<<32),
	} {
		l = append(l, bad[api.Frac]{x, 0, api.ErrRange})
	}
	return l
}

// badClasses have errors that are listed later, too, which must not count.
func badClasses() []bad[[]api.CloudClass] {
	type list = []api.CloudClass
	class := func(a, b, c, d int) api.CloudClass {
		return api.CloudClass{Signals: api.Range{Lo: a, Hi: b}, Parts: api.Range{Lo: c, Hi: d}}
	}
	full := slices.Repeat(list{class(0, 10000, 0, 1000)}, 9)
	l := []bad[list]{
		{nil, 0, api.ErrShape}, {list{}, 0, api.ErrShape},
		{make(list, 11), 0, api.ErrLarge}, {slices.Repeat(list{class(-1, 0, 0, 0)}, 11), 0, api.ErrLarge},
		// All errors of a class come before those of the next one.
		{list{class(1, 0, 0, 0), class(-1, 0, 0, 0)}, 0, api.ErrOrder},
		{list{class(0, 0, -1, 0), class(1, 0, 0, 0)}, 0, api.ErrRange},
	}
	add := func(want api.Errno, x api.CloudClass) {
		l = append(l, bad[list]{list{x}, 0, want}, bad[list]{append(slices.Clone(full), x), 9, want}, bad[list]{list{full[0], x, x}, 1, want})
	}
	for _, x := range beyond(0, 10000) {
		add(api.ErrRange, class(x, 10000, 0, 0))
		add(api.ErrRange, class(0, x, 0, 0))
		add(api.ErrRange, class(x, x, 1, 0))
	}
	for _, x := range beyond(0, 1000) {
		add(api.ErrRange, class(0, 0, x, 1000))
		add(api.ErrRange, class(0, 0, 0, x))
		add(api.ErrRange, class(1, 0, x, x))
	}
	add(api.ErrOrder, class(1, 0, 0, 0))
	add(api.ErrOrder, class(0, 0, 1, 0))
	add(api.ErrOrder, class(10000, 9999, 0, 1000))
	add(api.ErrOrder, class(0, 10000, 1000, 0))
	add(api.ErrOrder, class(9, 8, 7, 6))
	return l
}

func badLayers() []bad[[]api.CloudLayer] {
	type list = []api.CloudLayer
	full := slices.Repeat(list{layer(0, 20000, 8)}, 9)
	l := []bad[list]{
		{make(list, 11), 0, api.ErrLarge}, {slices.Repeat(list{layer(0, 1, 9)}, 11), 0, api.ErrLarge},
		{list{layer(1, 1, 0), layer(-1, 1, 0)}, 0, api.ErrOrder},
		{list{layer(0, 1, 9), layer(1, 0, 0)}, 0, api.ErrRange},
	}
	add := func(want api.Errno, x api.CloudLayer) {
		l = append(l, bad[list]{list{x}, 0, want}, bad[list]{append(slices.Clone(full), x), 9, want}, bad[list]{list{full[0], x, x}, 1, want})
	}
	for _, x := range beyond(0, 20000) {
		add(api.ErrRange, layer(x, 20000, 0))
		add(api.ErrRange, layer(0, x, 0))
		add(api.ErrRange, layer(x, x, 9))
	}
	for _, x := range beyond(0, 8) {
		add(api.ErrRange, layer(0, 1, x))
		add(api.ErrRange, layer(1, 0, x))
	}
	for _, x := range []api.CloudLayer{{}, layer(1, 0, 0), layer(20000, 20000, 8), layer(20000, 0, 4), layer(7, 7, 1), layer(7, 6, 1)} {
		add(api.ErrOrder, x)
	}
	return l
}

func badShots() []bad[[]api.CloudShot] {
	type list = []api.CloudShot
	full := slices.Repeat(list{shot(0, 1000000, 10000)}, 19)
	l := []bad[list]{
		{make(list, 21), 0, api.ErrLarge}, {slices.Repeat(list{shot(0, 1, -1)}, 21), 0, api.ErrLarge},
		{list{shot(1, 1, 0), shot(-1, 1, 0)}, 0, api.ErrOrder},
		{list{shot(0, 1, -1), shot(1, 1, 0)}, 0, api.ErrRange},
	}
	add := func(want api.Errno, x api.CloudShot) {
		l = append(l, bad[list]{list{x}, 0, want}, bad[list]{append(slices.Clone(full), x), 19, want}, bad[list]{list{full[0], x, x}, 1, want})
	}
	for _, x := range beyond(0, 1000000) {
		add(api.ErrRange, shot(x, 1000000, 0))
		add(api.ErrRange, shot(0, x, 0))
		add(api.ErrRange, shot(x, x, 10001))
	}
	for _, x := range beyond(0, 10000) {
		add(api.ErrRange, shot(0, 1, x))
		add(api.ErrRange, shot(1, 0, x))
	}
	for _, x := range []api.CloudShot{{}, shot(1, 0, 0), shot(1000000, 1000000, 10000), shot(1000000, 0, 1), shot(7, 7, 1), shot(7, 6, 1)} {
		add(api.ErrOrder, x)
	}
	return l
}

// same is for slices, of which nil and empty ones are the same.
func same[T any](a, b []T) bool {
	return len(a) == 0 && len(b) == 0 || reflect.DeepEqual(a, b)
}

func expect(t *testing.T, what string, got, want api.Errno) {
	t.Helper()
	if got != want {
		t.Errorf("%s: error %d, want %d", what, got, want)
	}
}

// expectOnly is for results with an error, which are zero.
func expectOnly(t *testing.T, what string, result any, got, want api.Errno) {
	t.Helper()
	expect(t, what, got, want)
	v := reflect.ValueOf(result)
	if v.Kind() == reflect.Slice && v.Len() == 0 {
		return
	}
	if !v.IsZero() {
		t.Errorf("%s: %v together with an error", what, result)
	}
}
