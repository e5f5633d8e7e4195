package target_test

import (
	"math"
	"math/big"
	"reflect"
	"slices"
	"testing"

	"glidepath/api"
)

// draws is a short rule for values that look arbitrary and are the same in every run.
type draws struct{ state uint64 }

func (d *draws) from(least, most int) int {
	high, low := d.next(), d.next()
	return least + (high<<31|low)%(most-least+1)
}

// next has 31 bits.
func (d *draws) next() int {
	d.state = d.state*6364136223846793005 + 1442695040888963407
	return int(d.state >> 33)
}

// readings have offsets that are at most so different, and errors up to another number.
func (d *draws) readings(count, wide, off int) []api.TargetReading {
	var l []api.TargetReading
	for range count {
		distance := d.from(0, 2000)
		near := max(0, min(2000, distance+d.from(-wide, wide)))
		l = append(l, reading(distance, near, d.from(0, off)))
	}
	return l
}

// apart are readings of which at least two distances are different.
func (d *draws) apart(count, wide, off int) []api.TargetReading {
	l := d.readings(count, wide, off)
	if isLevel(l) {
		l[0].Distance = (l[0].Distance + 1) % 2001
	}
	return l
}

// line is in lowest terms.
func (d *draws) line(den, scale, offset int) api.TargetLine {
	x := line(d.from(1, den), d.from(-scale, scale), d.from(-offset, offset))
	divisor := divisorOf(x)
	return line(x.Den/divisor, x.Scale/divisor, x.Offset/divisor)
}

func (d *draws) direction(most int) [3]int {
	for {
		x := [3]int{d.from(-most, most), d.from(-most, most), d.from(-most, most)}
		if x != [3]int{} {
			return x
		}
	}
}

func (d *draws) sights(count, most int) []api.TargetSight {
	var l []api.TargetSight
	for range count {
		l = append(l, sight(d.direction(most), d.direction(most)))
	}
	return l
}

func (d *draws) ends(most, wide int) api.Range {
	lo := d.from(-most, most)
	return api.Range{Lo: lo, Hi: min(most, lo+d.from(0, wide))}
}

func (d *draws) pairs(count, most, wide int) []api.TargetPair {
	var l []api.TargetPair
	for range count {
		l = append(l, api.TargetPair{Lidar: d.ends(most, wide), Other: d.ends(most, wide)})
	}
	return l
}

func (d *draws) tasks(count, days, hours int) []api.TargetTask {
	var l []api.TargetTask
	for i := range count {
		l = append(l, task(string(rune('a'+i)), d.from(0, days), d.from(0, hours)))
	}
	return l
}

func reading(distance, read, off int) api.TargetReading {
	return api.TargetReading{Distance: distance, Reading: read, Error: off}
}

func line(den, scale, offset int) api.TargetLine {
	return api.TargetLine{Scale: scale, Offset: offset, Den: den}
}

func sight(known, seen [3]int) api.TargetSight { return api.TargetSight{Known: known, Seen: seen} }

func pair(a, b, c, d int) api.TargetPair {
	return api.TargetPair{Lidar: ends(a, b), Other: ends(c, d)}
}

func task(name string, due, hours int) api.TargetTask {
	return api.TargetTask{Name: name, Due: due, Hours: hours}
}

func ends(lo, hi int) api.Range { return api.Range{Lo: lo, Hi: hi} }

func frac(num, den int) api.Frac { return api.Frac{Num: num, Den: den} }

// r are the readings of the first example.
func r() []api.TargetReading {
	return []api.TargetReading{reading(100, 103, 2), reading(500, 504, 1), reading(900, 910, 3)}
}

// two are the readings of the second example, whose line is 2 7 1.
func two() []api.TargetReading {
	return []api.TargetReading{reading(0, 1, 0), reading(1, 3, 0), reading(2, 8, 0)}
}

// five, six and seven are the values of the examples with these numbers.
func five() []api.TargetSight {
	return []api.TargetSight{sight([3]int{1, 0, 0}, [3]int{0, 1, 0}), sight([3]int{0, 1, 0}, [3]int{-1, 0, 0})}
}

func six() []api.TargetPair { return []api.TargetPair{pair(5, 6, 4, 5), pair(10, 12, 4, 4)} }

func seven() []api.TargetTask { return []api.TargetTask{task("a", 2, 10), task("b", 1, 6)} }

func isLevel(l []api.TargetReading) bool {
	for _, x := range l {
		if x.Distance != l[0].Distance {
			return false
		}
	}
	return true
}

// divisorOf is the greatest common divisor of the numbers of a line.
func divisorOf(x api.TargetLine) int {
	divisor := new(big.Int)
	for _, number := range []int{x.Den, x.Scale, x.Offset} {
		divisor.GCD(nil, nil, divisor, new(big.Int).Abs(big.NewInt(int64(number))))
	}
	return int(divisor.Int64())
}

// down and up round a fraction.
func down(x *big.Rat) int {
	return int(new(big.Int).Div(x.Num(), x.Denom()).Int64())
}

func up(x *big.Rat) int { return -down(new(big.Rat).Neg(x)) }

func rat(num, den int) *big.Rat { return big.NewRat(int64(num), int64(den)) }

// beyond are numbers that are not between two others.
func beyond(least, most int) []int {
	return []int{least - 1, most + 1, math.MinInt, math.MaxInt, least - 1<<32, most + 1<<32}
}

// bad is a value with its error, and the index of the item that it concerns.
type bad[T any] struct {
	value T
	index int
	want  api.Errno
}

// addBad adds a bad item alone, as the last one of the most that are permitted, and before
// another one.
func addBad[T any](l []bad[[]T], want api.Errno, good []T, x T) []bad[[]T] {
	return append(l,
		bad[[]T]{[]T{x}, 0, want},
		bad[[]T]{append(slices.Clone(good), x), len(good), want},
		bad[[]T]{[]T{good[0], x, x}, 1, want},
	)
}

// badReadings have errors that are listed later, too, which must not count.
func badReadings() []bad[[]api.TargetReading] {
	type list = []api.TargetReading
	l := []bad[list]{
		{nil, 0, api.ErrShape}, {list{}, 0, api.ErrShape},
		{make(list, 9), 0, api.ErrLarge}, {slices.Repeat(r(), 3), 0, api.ErrLarge}, {slices.Repeat(list{reading(-1, -1, -1)}, 9), 0, api.ErrLarge}, {make(list, 100000), 0, api.ErrLarge},
	}
	good := slices.Repeat(list{reading(2000, 0, 1000), reading(0, 2000, 0)}, 4)[:7]
	add := func(x api.TargetReading) { l = addBad(l, api.ErrRange, good, x) }
	for _, x := range beyond(0, 2000) {
		add(reading(x, 0, 0))
		add(reading(0, x, 0))
		add(reading(x, x, x))
	}
	for _, x := range beyond(0, 1000) {
		add(reading(0, 0, x))
		add(reading(2000, 2000, x))
	}
	return l
}

// badLines have both errors sometimes: the range comes first.
func badLines() []bad[api.TargetLine] {
	var l []bad[api.TargetLine]
	add := func(want api.Errno, x api.TargetLine) { l = append(l, bad[api.TargetLine]{x, 0, want}) }
	for _, x := range beyond(1, 1000000000) {
		add(api.ErrRange, line(x, 1, 1))
		add(api.ErrRange, line(x, 0, 0))
		add(api.ErrRange, line(x, x, x))
	}
	for _, x := range beyond(-1000000000, 1000000000) {
		add(api.ErrRange, line(1, x, 0))
		add(api.ErrRange, line(2, x, 2*(x/4)))
		add(api.ErrRange, line(1000000000, x, 1000000000000))
	}
	for _, x := range beyond(-1000000000000, 1000000000000) {
		add(api.ErrRange, line(1, 0, x))
		add(api.ErrRange, line(1, 1000000000, x))
		add(api.ErrRange, line(2, 2*(x%1000), x))
	}
	for _, x := range []api.TargetLine{
		line(2, 0, 0), line(2, 2, 2), line(4, 14, 2), line(2, -2, 4), line(2, 2, -4), line(2, -4, -6), line(1000000000, 1000000000, 1000000000000), line(1000000000, 0, 5), line(3, 9, 0), line(6, 0, 999999999999),
		line(999999999, 999999999, 0), line(15, 6, 9), line(1000000000, -1000000000, -1000000000000), line(49, 7, 0),
	} {
		add(api.ErrForm, x)
	}
	return l
}

func badSights() []bad[[]api.TargetSight] {
	type list = []api.TargetSight
	one := [3]int{0, 0, 1}
	l := []bad[list]{
		{nil, 0, api.ErrShape}, {list{}, 0, api.ErrShape},
		{make(list, 9), 0, api.ErrLarge}, {slices.Repeat(five(), 5), 0, api.ErrLarge}, {slices.Repeat(list{sight([3]int{21}, one)}, 9), 0, api.ErrLarge},
		// All errors of a sight come before those of the next one.
		{list{sight(one, [3]int{}), sight([3]int{21}, one)}, 0, api.ErrZero},
		{list{sight(one, [3]int{0, 21, 0}), sight([3]int{}, one)}, 0, api.ErrRange},
	}
	good := slices.Repeat(list{sight([3]int{20, -20, 20}, [3]int{-20, 20, -20}), sight(one, one)}, 4)[:7]
	add := func(want api.Errno, x api.TargetSight) { l = addBad(l, want, good, x) }
	for _, x := range beyond(-20, 20) {
		for i := range 3 {
			wrong := one
			wrong[i] = x
			add(api.ErrRange, sight(wrong, one))
			add(api.ErrRange, sight(one, wrong))
			add(api.ErrRange, sight(wrong, [3]int{}))
			add(api.ErrRange, sight([3]int{}, wrong))
		}
	}
	add(api.ErrZero, sight([3]int{}, one))
	add(api.ErrZero, sight(one, [3]int{}))
	add(api.ErrZero, api.TargetSight{})
	return l
}

func badPairs() []bad[[]api.TargetPair] {
	type list = []api.TargetPair
	l := []bad[list]{
		{nil, 0, api.ErrShape}, {list{}, 0, api.ErrShape},
		{make(list, 21), 0, api.ErrLarge}, {slices.Repeat(six(), 11), 0, api.ErrLarge}, {slices.Repeat(list{pair(1, 0, 10001, 0)}, 21), 0, api.ErrLarge},
		{list{pair(0, 0, 1, 0), pair(10001, 0, 0, 0)}, 0, api.ErrOrder},
		{list{pair(0, 0, 0, 10001), pair(1, 0, 0, 0)}, 0, api.ErrRange},
	}
	good := slices.Repeat(list{pair(-10000, 10000, 10000, 10000), pair(-10000, -10000, 0, 0)}, 10)[:19]
	add := func(want api.Errno, x api.TargetPair) { l = addBad(l, want, good, x) }
	for _, x := range beyond(-10000, 10000) {
		add(api.ErrRange, pair(x, 10000, 0, 0))
		add(api.ErrRange, pair(-10000, x, 0, 0))
		add(api.ErrRange, pair(0, 0, x, 10000))
		add(api.ErrRange, pair(0, 0, -10000, x))
		// Both ranges are looked at before the order of one.
		add(api.ErrRange, pair(1, 0, 0, x))
		add(api.ErrRange, pair(1, 0, x, 0))
		add(api.ErrRange, pair(x, 0, 1, 0))
		add(api.ErrRange, pair(0, x, 1, 0))
	}
	for _, x := range []api.TargetPair{pair(1, 0, 0, 0), pair(0, 0, 1, 0), pair(1, 0, 1, 0), pair(0, -1, -1, 0), pair(10000, -10000, 0, 0), pair(0, 0, 10000, 9999)} {
		add(api.ErrOrder, x)
	}
	return l
}

// badNames are no names.
func badNames() []string {
	return []string{
		"", "1", "-", "1a", "-a", "a b", " a", "a ", "a_", "a.", "abcdefghijklm", "ä", "aä", "a\x00", "\xff", "a/", "a:", "@", "[", "`", "{", "a@", "a[", "a`", "a{", "a\n",
	}
}

func badTasks() []bad[[]api.TargetTask] {
	type list = []api.TargetTask
	l := []bad[list]{
		{make(list, 11), 0, api.ErrLarge}, {slices.Repeat(list{task("", -1, -1)}, 11), 0, api.ErrLarge},
		{(&draws{90}).tasks(11, 5, 5), 0, api.ErrLarge},
		// All errors of a task come before those of the next one.
		{list{task("a", 1001, 0), task("", 0, 0)}, 0, api.ErrRange},
		{list{task("a", 0, 1001), task("a", 0, 0)}, 0, api.ErrRange},
		{list{task("a", 0, 0), task("a", 0, 0), task("", -1, -1)}, 1, api.ErrExists},
	}
	good := list{task("a", 0, 0), task("b", 1000, 1000), task("A", 0, 0), task("B", 0, 0), task("a1", 0, 0), task("a-", 0, 0), task("abcdefghijkl", 0, 0), task("z", 0, 0), task("Z", 0, 0)}
	add := func(want api.Errno, x api.TargetTask) { l = addBad(l, want, good, x) }
	for _, name := range badNames() {
		add(api.ErrName, task(name, 0, 0))
		add(api.ErrName, task(name, -1, 1001))
	}
	for _, x := range good {
		for _, number := range []int{0, -1} {
			l = append(l, bad[list]{append(slices.Clone(good), task(x.Name, number, number)), 9, api.ErrExists})
		}
	}
	for _, x := range beyond(0, 1000) {
		add(api.ErrRange, task("c", x, 0))
		add(api.ErrRange, task("c", 0, x))
		add(api.ErrRange, task("c", x, x))
	}
	return l
}

// same is for slices, of which nil and empty ones are the same.
func same[T any](a, b []T) bool {
	return len(a) == 0 && len(b) == 0 || reflect.DeepEqual(a, b)
}

func expect(t *testing.T, what string, got, want api.Errno) {
	t.Helper()
	if got != want {
		t.Errorf("%s: error %d, want %d", what, got, want)
	}
}

// expectOnly is for results with an error, which are zero.
func expectOnly(t *testing.T, what string, result any, got, want api.Errno) {
	t.Helper()
	expect(t, what, got, want)
	v := reflect.ValueOf(result)
	if v.Kind() == reflect.Slice && v.Len() == 0 {
		return
	}
	if !v.IsZero() {
		t.Errorf("%s: %v together with an error", what, result)
	}
}
