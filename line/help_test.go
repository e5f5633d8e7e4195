package line_test

import (
	"math"
	"reflect"
	"slices"
	"testing"

	"glidepath/api"
)

// draws is a short rule for values that look arbitrary and are the same in every run.
type draws struct{ state uint64 }

func (d *draws) from(least, most int) int {
	d.state = d.state*6364136223846793005 + 1442695040888963407
	return least + int(d.state>>33)%(most-least+1)
}

func (d *draws) list(length, least, most int) []int {
	l := make([]int, length)
	for i := range l {
		l[i] = d.from(least, most)
	}
	return l
}

func (d *draws) spectrum(most int) []int {
	return d.list(d.from(1, api.MaxLineLines), 0, most)
}

// lineCase has few values, so that estimates and errors are often equal.
func (d *draws) lineCase() api.LineCase {
	return api.LineCase{
		Signal: d.list(d.from(1, 4), 0, 4),
		Noise:  noise(d.list(d.from(1, 4), 0, 3)...),
		Truth:  lowest(d.from(-9, 20), d.from(1, 9)),
	}
}

func noise(values ...int) api.LineNoise { return api.LineNoise{Values: values} }

func frac(num, den int) api.Frac { return api.Frac{Num: num, Den: den} }

// lowest tries all divisors, unlike the program.
func lowest(num, den int) api.Frac {
	for d := 2; d <= den; d++ {
		for num%d == 0 && den%d == 0 {
			num, den = num/d, den/d
		}
	}
	return frac(num, den)
}

func isLess(a, b api.Frac) bool { return a.Num*b.Den < b.Num*a.Den }

// four is the spectrum of the examples.
func four() []int { return []int{1, 4, 2, 0} }

// two is the case of the examples.
func two() api.LineCase {
	return api.LineCase{Signal: []int{2, 2}, Noise: noise(0, 1), Truth: frac(0, 1)}
}

// badSpectra are spectra with their errors, and the indexes of these.
var badSpectra = []struct {
	lines []int
	index int
	want  api.Errno
}{
	{nil, 0, api.ErrShape},
	{[]int{}, 0, api.ErrShape},
	{make([]int, 17), 0, api.ErrLarge},
	{slices.Repeat([]int{-1}, 17), 0, api.ErrLarge},
	{[]int{-1}, 0, api.ErrRange},
	{[]int{10001}, 0, api.ErrRange},
	{[]int{0, 10000, 10001, -1}, 2, api.ErrRange},
	{[]int{5, math.MinInt}, 1, api.ErrRange},
	{[]int{math.MaxInt}, 0, api.ErrRange},
}

// badNoises are noises with their errors, and the indexes of these.
var badNoises = []struct {
	noise api.LineNoise
	index int
	want  api.Errno
}{
	{noise(), 0, api.ErrShape},
	{api.LineNoise{Values: []int{}}, 0, api.ErrShape},
	{noise(0, 0, 0, 0, 0), 0, api.ErrLarge},
	{noise(-1, -1, -1, -1, -1), 0, api.ErrLarge},
	{noise(-1), 0, api.ErrRange},
	{noise(0, 1000, 1001, -1), 2, api.ErrRange},
	{noise(7, math.MinInt), 1, api.ErrRange},
	{noise(math.MaxInt), 0, api.ErrRange},
}

// badFractions are fractions with their errors, as positions and as speeds.
var badFractions = []struct {
	fraction api.Frac
	want     api.Errno
}{
	{api.Frac{}, api.ErrForm},
	{frac(1, 0), api.ErrForm},
	{frac(0, 2), api.ErrForm},
	{frac(2, 4), api.ErrForm},
	{frac(-3, 9), api.ErrForm},
	{frac(1, -1), api.ErrForm},
	{frac(0, -1), api.ErrForm},
	{frac(2000000000, 2), api.ErrForm},
	{frac(math.MinInt, 2), api.ErrForm},
	{frac(math.MinInt, math.MinInt), api.ErrForm},
	{frac(math.MaxInt, math.MaxInt), api.ErrForm},
	{frac(1000000001, 1), api.ErrRange},
	{frac(-1000000001, 1), api.ErrRange},
	{frac(1, 1000000001), api.ErrRange},
	{frac(math.MinInt, 1), api.ErrRange},
	{frac(math.MinInt, math.MaxInt), api.ErrRange},
	{frac(math.MaxInt, 1), api.ErrRange},
}

type badCase struct {
	lineCase api.LineCase
	want     api.Errno
}

// badCases are cases with their errors; most have errors that are listed later, too, which must not count.
func badCases() []badCase {
	var bad []badCase
	for _, x := range badSpectra {
		bad = append(bad, badCase{api.LineCase{Signal: x.lines}, x.want})
	}
	for _, x := range badNoises {
		bad = append(bad, badCase{api.LineCase{Signal: []int{9001}, Noise: x.noise}, x.want})
	}
	bad = append(bad,
		badCase{api.LineCase{Signal: []int{9001}, Noise: noise(1), Truth: frac(0, 1)}, api.ErrRange},
		badCase{api.LineCase{Signal: []int{0, 9000, 10000}, Noise: noise(1)}, api.ErrRange},
		badCase{api.LineCase{Signal: append(make([]int, 12), 9001), Noise: noise(0, 0)}, api.ErrRange},
		badCase{api.LineCase{Signal: make([]int, 13), Noise: noise(0, 0)}, api.ErrLarge},
		badCase{api.LineCase{Signal: make([]int, 8), Noise: noise(0, 0, 0)}, api.ErrLarge},
		badCase{api.LineCase{Signal: make([]int, 7), Noise: noise(0, 0, 0, 0)}, api.ErrLarge},
		badCase{api.LineCase{Signal: make([]int, 16), Noise: noise(0, 0, 0, 0), Truth: frac(0, 1)}, api.ErrLarge},
	)
	for _, x := range badFractions {
		bad = append(bad, badCase{api.LineCase{Signal: []int{1}, Noise: noise(1), Truth: x.fraction}, x.want})
	}
	for _, x := range []api.Frac{frac(101, 1), frac(-101, 1), frac(1, 101), frac(100, 101), frac(1000000000, 1)} {
		bad = append(bad, badCase{api.LineCase{Signal: []int{1}, Noise: noise(1), Truth: x}, api.ErrRange})
	}
	return bad
}

// same is for slices, of which nil and empty ones are the same.
func same[T any](a, b []T) bool {
	return len(a) == 0 && len(b) == 0 || reflect.DeepEqual(a, b)
}

func expect(t *testing.T, what string, got, want api.Errno) {
	t.Helper()
	if got != want {
		t.Errorf("%s: error %d, want %d", what, got, want)
	}
}

// expectOnly is for results with an error, which are zero.
func expectOnly(t *testing.T, what string, result any, got, want api.Errno) {
	t.Helper()
	expect(t, what, got, want)
	v := reflect.ValueOf(result)
	if v.Kind() == reflect.Slice && v.Len() == 0 {
		return
	}
	if !v.IsZero() {
		t.Errorf("%s: %v together with an error", what, result)
	}
}
