package wind_test

import (
	"math"
	"math/big"
	"reflect"
	"slices"
	"testing"

	"glidepath/api"
	"glidepath/wind"
)

// draws is a short rule for values that look arbitrary and are the same in every run.
type draws struct{ state uint64 }

func (d *draws) from(least, most int) int {
	d.state = d.state*6364136223846793005 + 1442695040888963407
	return least + int(d.state>>33)%(most-least+1)
}

func (d *draws) direction(size int) [3]int {
	for {
		if x := [3]int{d.from(-size, size), d.from(-size, size), d.from(-size, size)}; x != [3]int{} {
			return x
		}
	}
}

// readings have small directions, so that they often depend on each other, and often no wind.
func (d *draws) readings(count, size, value int) []api.WindReading {
	l := make([]api.WindReading, count)
	for i := range l {
		low := d.from(-value, value)
		l[i] = api.WindReading{Direction: d.direction(size), Value: api.Range{Lo: low, Hi: min(value, low+d.from(0, value/2))}}
	}
	return l
}

// around are readings with which a whole wind agrees.
func (d *draws) around(v [3]int, count, size, off int) []api.WindReading {
	l := make([]api.WindReading, count)
	for i := range l {
		x := d.direction(size)
		value := product(v, x)
		l[i] = api.WindReading{Direction: x, Value: api.Range{Lo: value - d.from(0, off), Hi: value + d.from(0, off)}}
	}
	return l
}

func (d *draws) box(size int) api.WindBox {
	var ends [3]api.Range
	for k := range ends {
		low := d.from(-size, size)
		ends[k] = api.Range{Lo: low, Hi: d.from(low, size)}
	}
	return api.WindBox{X: ends[0], Y: ends[1], Z: ends[2]}
}

func (d *draws) profile(count int) []api.WindLayer {
	l := make([]api.WindLayer, count)
	height := 0
	for i := range l {
		height += d.from(1, 30)
		l[i] = api.WindLayer{Height: height, Wind: d.box(50)}
	}
	return l
}

func reading(x, y, z, lo, hi int) api.WindReading {
	return api.WindReading{Direction: [3]int{x, y, z}, Value: api.Range{Lo: lo, Hi: hi}}
}

func readings(l ...api.WindReading) []api.WindReading { return l }

func vector(x, y, z, den int) api.WindVector { return api.WindVector{X: x, Y: y, Z: z, Den: den} }

func frac(num, den int) api.Frac { return api.Frac{Num: num, Den: den} }

func ends(lo, hi int) api.Range { return api.Range{Lo: lo, Hi: hi} }

func layer(height int, x, y, z api.Range) api.WindLayer {
	return api.WindLayer{Height: height, Wind: api.WindBox{X: x, Y: y, Z: z}}
}

// r are the readings of the examples, and more.
func r(more ...api.WindReading) []api.WindReading {
	return append(readings(reading(1, 0, 0, 3, 5), reading(0, 1, 0, 0, 0), reading(0, 0, 1, 0, 2)), more...)
}

// plane has the rank 2.
func plane() []api.WindReading {
	return readings(reading(1, 0, 0, 0, 1), reading(0, 1, 0, 0, 1), reading(3, -2, 0, 0, 1))
}

func product(a, b [3]int) int { return a[0]*b[0] + a[1]*b[1] + a[2]*b[2] }

// cross is 0, 0, 0 if two directions depend on each other.
func cross(a, b [3]int) [3]int {
	return [3]int{a[1]*b[2] - a[2]*b[1], a[2]*b[0] - a[0]*b[2], a[0]*b[1] - a[1]*b[0]}
}

// rankBy tries all pairs and triples.
func rankBy(l [][3]int) int {
	rank := 0
	for _, a := range l {
		if a != [3]int{} {
			rank = max(rank, 1)
		}
		for _, b := range l {
			if cross(a, b) != [3]int{} {
				rank = max(rank, 2)
			}
			for _, c := range l {
				if product(a, cross(b, c)) != 0 {
					rank = 3
				}
			}
		}
	}
	return rank
}

func directionsOf(l []api.WindReading) [][3]int {
	var directions [][3]int
	for _, x := range l {
		directions = append(directions, x.Direction)
	}
	return directions
}

func isDivided(l ...int) bool {
	d := new(big.Int)
	for _, x := range l {
		d.GCD(nil, nil, d, big.NewInt(int64(x)))
	}
	return d.Cmp(big.NewInt(1)) != 0
}

func rat(num, den int) *big.Rat { return big.NewRat(int64(num), int64(den)) }

func whole(x int) *big.Rat { return rat(x, 1) }

func partsOf(v api.WindVector) [3]*big.Rat {
	return [3]*big.Rat{rat(v.X, v.Den), rat(v.Y, v.Den), rat(v.Z, v.Den)}
}

func along(v [3]*big.Rat, d [3]int) *big.Rat {
	sum := new(big.Rat)
	for k, part := range v {
		sum.Add(sum, new(big.Rat).Mul(part, whole(d[k])))
	}
	return sum
}

func agrees(l []api.WindReading, v [3]*big.Rat) bool {
	for _, x := range l {
		p := along(v, x.Direction)
		if p.Cmp(whole(x.Value.Lo)) < 0 || p.Cmp(whole(x.Value.Hi)) > 0 {
			return false
		}
	}
	return true
}

// bound says that the sum of the parts of a wind times the factors is at most a number, or less than it.
type bound struct {
	factors [3]*big.Rat
	most    *big.Rat
	isLess  bool
}

func boundBy(d [3]int, sign int, most *big.Rat, isLess bool) bound {
	return bound{[3]*big.Rat{whole(sign * d[0]), whole(sign * d[1]), whole(sign * d[2])}, most, isLess}
}

func boundsOf(l []api.WindReading) []bound {
	var bounds []bound
	for _, x := range l {
		bounds = append(bounds, boundBy(x.Direction, 1, whole(x.Value.Hi), false), boundBy(x.Direction, -1, whole(-x.Value.Lo), false))
	}
	return bounds
}

// isPossible eliminates one part of the wind after the other, by sums of a bound above and one below.
func isPossible(bounds []bound) bool {
	for k := range 3 {
		var above, below, next []bound
		for _, b := range bounds {
			switch b.factors[k].Sign() {
			case 1:
				above = append(above, b)
			case -1:
				below = append(below, b)
			default:
				next = append(next, b)
			}
		}
		for _, a := range above {
			for _, b := range below {
				next = append(next, summed(a, b, k))
			}
		}
		bounds = next
	}
	for _, b := range bounds {
		if b.most.Sign() < 0 || b.isLess && b.most.Sign() == 0 {
			return false
		}
	}
	return true
}

func summed(a, b bound, k int) bound {
	forA, forB := new(big.Rat).Neg(b.factors[k]), a.factors[k]
	add := func(x, y *big.Rat) *big.Rat {
		return new(big.Rat).Add(new(big.Rat).Mul(forA, x), new(big.Rat).Mul(forB, y))
	}
	sum := bound{most: add(a.most, b.most), isLess: a.isLess || b.isLess}
	for i := range sum.factors {
		sum.factors[i] = add(a.factors[i], b.factors[i])
	}
	return sum
}

// subsets are those of the indexes below n, by size and then lexicographically.
func subsets(n int) [][]int {
	var all [][]int
	for s := range 1 << n {
		var set []int
		for i := range n {
			if s>>i&1 == 1 {
				set = append(set, i)
			}
		}
		all = append(all, set)
	}
	slices.SortFunc(all, func(a, b []int) int {
		if len(a) != len(b) {
			return len(a) - len(b)
		}
		return slices.Compare(a, b)
	})
	return all
}

func chosen(l []api.WindReading, set []int) []api.WindReading {
	var part []api.WindReading
	for _, i := range set {
		part = append(part, l[i])
	}
	return part
}

// badDirections are directions with their errors.
var badDirections = []struct {
	direction [3]int
	want      api.Errno
}{
	{[3]int{10, 0, 0}, api.ErrRange},
	{[3]int{0, -10, 0}, api.ErrRange},
	{[3]int{0, 0, 10}, api.ErrRange},
	{[3]int{9, -9, -10}, api.ErrRange},
	{[3]int{math.MinInt, math.MinInt, math.MinInt}, api.ErrRange},
	{[3]int{0, math.MaxInt, math.MinInt}, api.ErrRange},
	{[3]int{0, 0, 0}, api.ErrZero},
}

type badReading struct {
	readings []api.WindReading
	index    int
	want     api.Errno
}

// badReadings are readings with their errors; most have errors that are listed later, too, which must not count.
func badReadings() []badReading {
	bad := []badReading{
		{nil, 0, api.ErrShape},
		{[]api.WindReading{}, 0, api.ErrShape},
		{slices.Repeat(r(), 3)[:7], 0, api.ErrLarge},
		{make([]api.WindReading, 7), 0, api.ErrLarge},
		{slices.Repeat(readings(reading(10, 0, 0, 2, 1)), 7), 0, api.ErrLarge},
	}
	add := func(x api.WindReading, want api.Errno) {
		later := readings(reading(10, 0, 0, 1, 0), reading(0, 0, 0, 1, 0), reading(1, 0, 0, 1, 0))
		bad = append(bad,
			badReading{readings(x), 0, want},
			badReading{append(readings(x), later...), 0, want},
			badReading{r(x), 3, want},
			badReading{append(r(reading(-9, 9, -9, -10000, 10000), reading(9, 0, 0, 10000, 10000)), x), 5, want},
		)
	}
	for _, x := range badDirections {
		for _, value := range []api.Range{ends(0, 0), ends(0, 10001), ends(1, 0)} {
			add(api.WindReading{Direction: x.direction, Value: value}, x.want)
		}
	}
	for _, value := range []api.Range{
		ends(-10001, 0), ends(0, 10001), ends(10001, 0), ends(0, -10001), ends(10001, 10001), ends(-10001, -10001),
		ends(math.MinInt, 0), ends(0, math.MaxInt), ends(math.MaxInt, math.MinInt), ends(math.MinInt, math.MinInt),
	} {
		add(api.WindReading{Direction: [3]int{1, 0, 0}, Value: value}, api.ErrRange)
	}
	for _, value := range []api.Range{ends(1, 0), ends(10000, -10000), ends(-9999, -10000)} {
		add(api.WindReading{Direction: [3]int{0, 0, -1}, Value: value}, api.ErrOrder)
	}
	return bad
}

// badWinds are winds with their errors.
var badWinds = []struct {
	wind api.WindVector
	want api.Errno
}{
	{vector(0, 0, 0, 0), api.ErrRange},
	{vector(4, 0, 1, 0), api.ErrRange},
	{vector(4, 0, 1, -1), api.ErrRange},
	{vector(-4, 0, -1, -1), api.ErrRange},
	{vector(1, 1, 1, 1000000001), api.ErrRange},
	{vector(1000000001, 0, 0, 1000000001), api.ErrRange},
	{vector(1000000000001, 0, 0, 1), api.ErrRange},
	{vector(0, -1000000000001, 0, 1), api.ErrRange},
	{vector(0, 0, 1000000000001, 1), api.ErrRange},
	{vector(2000000000000, 0, 0, 2), api.ErrRange},
	{vector(math.MinInt, math.MinInt, math.MinInt, math.MinInt), api.ErrRange},
	{vector(math.MinInt, math.MinInt, math.MinInt, 2), api.ErrRange},
	{vector(math.MaxInt, math.MaxInt, math.MaxInt, math.MaxInt), api.ErrRange},
	{vector(0, 0, math.MinInt, 1), api.ErrRange},
	{vector(8, 0, 2, 2), api.ErrForm},
	{vector(0, 0, 0, 2), api.ErrForm},
	{vector(0, 0, 0, 1000000000), api.ErrForm},
	{vector(0, -15, 0, 10), api.ErrForm},
	{vector(24, 40, 60, 4), api.ErrForm},
}

// answers are all results for readings alone, with their errors.
func answers(l []api.WindReading) map[string]func() (any, api.Errno) {
	return map[string]func() (any, api.Errno){
		"rank":          func() (any, api.Errno) { return wind.RankOf(l) },
		"undecided":     func() (any, api.Errno) { return wind.UndecidedOf(l) },
		"fit":           func() (any, api.Errno) { return wind.FitOf(l) },
		"residual":      func() (any, api.Errno) { return wind.ResidualOf(l) },
		"vertices":      func() (any, api.Errno) { return wind.VerticesOf(l) },
		"box":           func() (any, api.Errno) { return wind.BoxOf(l) },
		"contradiction": func() (any, api.Errno) { return wind.ContradictionOf(l) },
	}
}

// same is for slices, of which nil and empty ones are the same.
func same[T any](a, b []T) bool {
	return len(a) == 0 && len(b) == 0 || reflect.DeepEqual(a, b)
}

func expect(t *testing.T, what string, got, want api.Errno) {
	t.Helper()
	if got != want {
		t.Errorf("%s: error %d, want %d", what, got, want)
	}
}

// expectOnly is for results with an error, which are zero.
func expectOnly(t *testing.T, what string, result any, got, want api.Errno) {
	t.Helper()
	expect(t, what, got, want)
	v := reflect.ValueOf(result)
	if v.Kind() == reflect.Slice && v.Len() == 0 {
		return
	}
	if !v.IsZero() {
		t.Errorf("%s: %v together with an error", what, result)
	}
}
