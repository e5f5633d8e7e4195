package cloud_test

import (
	"slices"
	"testing"

	"glidepath/api"
	"glidepath/cloud"
)

// eight are the layers of the examples.
func eight() []api.CloudLayer {
	return []api.CloudLayer{layer(500, 800, 3), layer(300, 400, 2), layer(900, 1000, 4)}
}

// ceiling looks for the lowest base up to which the layers, those at this base among them, cover
// enough. (Whichever layer at one base is the last one that is needed, the base is the same.)
func ceiling(l []api.CloudLayer, eighths int) (int, bool) {
	best, ok := 0, false
	for _, x := range l {
		covered := 0
		for _, other := range l {
			if other.Base <= x.Base {
				covered += other.Eighths
			}
		}
		if covered >= eighths && (!ok || x.Base < best) {
			best, ok = x.Base, true
		}
	}
	return best, ok
}

func (d *draws) layers(count int) []api.CloudLayer {
	var l []api.CloudLayer
	for range count {
		base := d.from(0, []int{5, 19999}[d.from(0, 1)])
		l = append(l, layer(base, d.from(base+1, 20000), d.from(0, []int{2, 8}[d.from(0, 1)])))
	}
	return l
}

// P8.6
func TestCheckLayers(t *testing.T) {
	draw := &draws{106}
	good := [][]api.CloudLayer{nil, {}, eight(), {layer(0, 20000, 8)}, {layer(19999, 20000, 0)}, slices.Repeat([]api.CloudLayer{layer(0, 1, 8)}, 10)}
	for i := range 50 {
		good = append(good, draw.layers(i%11))
	}
	for _, l := range good {
		if i, e := cloud.CheckLayers(l); i != 0 || e != api.OK {
			t.Errorf("%v: %d, %d", l, i, e)
		}
	}
	for _, x := range badLayers() {
		if i, e := cloud.CheckLayers(x.value); i != x.index || e != x.want {
			t.Errorf("%v: %d, %d, want %d, %d", x.value, i, e, x.index, x.want)
		}
	}
}

// P8.6, example 8, edge cases
func TestCeilingOfExamples(t *testing.T) {
	for _, c := range []struct {
		layers        []api.CloudLayer
		eighths, want int // below 0 if there is none
	}{
		{eight(), 5, 500}, {eight(), 6, 900}, {eight(), 1, 300}, {eight(), 2, 300}, {eight(), 3, 500},
		// Layers may cover more than 8 eighths together.
		{eight(), 8, 900}, {slices.Repeat([]api.CloudLayer{layer(7, 9, 8)}, 10), 8, 7}, {eight()[:2], 5, 500}, {eight()[:2], 6, -1},
		{nil, 1, -1}, {[]api.CloudLayer{layer(0, 1, 0)}, 1, -1}, {[]api.CloudLayer{layer(0, 1, 1)}, 1, 0}, {[]api.CloudLayer{layer(0, 20000, 8)}, 8, 0}, {[]api.CloudLayer{layer(19999, 20000, 8)}, 8, 19999},
		// They may overlap, and have one base.
		{[]api.CloudLayer{layer(5, 9, 2), layer(5, 6, 3), layer(4, 20000, 1)}, 6, 5}, {[]api.CloudLayer{layer(5, 9, 0), layer(9, 10, 2)}, 2, 9},
	} {
		got, e := cloud.CeilingOf(c.layers, c.eighths)
		if c.want < 0 {
			expectOnly(t, "none", got, e, api.ErrNone)
		} else if got != c.want || e != api.OK {
			t.Errorf("%v, %d: %d, %d, want %d", c.layers, c.eighths, got, e, c.want)
		}
	}
}

// P8.6
func TestCeilingOf(t *testing.T) {
	draw := &draws{107}
	for i := range 1000 {
		l := draw.layers(i % 11)
		kept := slices.Clone(l)
		eighths := draw.from(1, 8)
		want, ok := ceiling(l, eighths)
		got, e := cloud.CeilingOf(l, eighths)
		if !ok {
			expectOnly(t, "none", got, e, api.ErrNone)
		} else if got != want || e != api.OK {
			t.Fatalf("%v, %d: %d, %d, want %d", l, eighths, got, e, want)
		}
		if !slices.Equal(l, kept) {
			t.Fatalf("%v changed from %v", l, kept)
		}
	}
}

// P8.6
func TestCeilingOfErrors(t *testing.T) {
	for _, x := range badLayers() {
		for _, eighths := range []int{1, 0} {
			got, e := cloud.CeilingOf(x.value, eighths)
			expectOnly(t, "layers", got, e, x.want)
		}
	}
	for _, eighths := range beyond(1, 8) {
		for _, l := range [][]api.CloudLayer{eight(), nil} {
			got, e := cloud.CeilingOf(l, eighths)
			expectOnly(t, "eighths", got, e, api.ErrRange)
		}
	}
}

// P8.6, example 8
func TestMiddleOfExamples(t *testing.T) {
	for _, c := range []struct {
		numbers []int
		want    int
	}{
		{[]int{300, 5000, 320}, 320}, {[]int{0}, 0}, {[]int{20000}, 20000},
		// Of two the smaller one.
		{[]int{2, 1}, 1}, {[]int{1, 2}, 1}, {[]int{4, 3, 2, 1}, 2}, {[]int{5, 1, 5, 1}, 1}, {[]int{5, 1, 5}, 5}, {[]int{7, 7, 7, 7}, 7},
		{[]int{14, 13, 12, 11, 10, 9, 8, 7, 6, 5, 4, 3, 2, 1, 0}, 7}, {[]int{13, 12, 11, 10, 9, 8, 7, 6, 5, 4, 3, 2, 1, 0}, 6},
	} {
		kept := slices.Clone(c.numbers)
		if got, e := cloud.MiddleOf(c.numbers); got != c.want || e != api.OK {
			t.Errorf("%v: %d, %d, want %d", c.numbers, got, e, c.want)
		}
		if !slices.Equal(c.numbers, kept) {
			t.Errorf("%v changed from %v", c.numbers, kept)
		}
	}
}

// P8.6, P8.13
func TestMiddleOf(t *testing.T) {
	draw := &draws{108}
	for i := range 500 {
		l := draw.list(1+i%15, 0, []int{3, 50, 20000}[i%3])
		got, e := cloud.MiddleOf(l)
		fewer, more := 0, 0
		for _, x := range l {
			if x < got {
				fewer++
			}
			if x <= got {
				more++
			}
		}
		// The index of the middle is that of one of the numbers that are equal to it.
		if index := (len(l) - 1) / 2; index < fewer || index >= more || e != api.OK {
			t.Fatalf("%v: %d, %d", l, got, e)
		}
	}
	for i := range 500 {
		faults := i % 8
		good := draw.list(faults+1, 5000, 5000+draw.from(0, 100))
		l := slices.Clone(good)
		for range faults {
			l = slices.Insert(l, draw.from(0, len(l)), []int{0, 20000, draw.from(0, 20000)}[draw.from(0, 2)])
		}
		if got, e := cloud.MiddleOf(l); got < slices.Min(good) || got > slices.Max(good) || e != api.OK {
			t.Fatalf("%v of %v: %d, %d", good, l, got, e)
		}
	}
}

// P8.6
func TestMiddleOfErrors(t *testing.T) {
	l := []bad[[]int]{
		{nil, 0, api.ErrShape}, {[]int{}, 0, api.ErrShape}, {make([]int, 16), 0, api.ErrLarge}, {slices.Repeat([]int{-1}, 16), 0, api.ErrLarge},
	}
	for _, x := range beyond(0, 20000) {
		l = append(l, bad[[]int]{[]int{x}, 0, api.ErrRange}, bad[[]int]{append(make([]int, 14), x), 0, api.ErrRange}, bad[[]int]{[]int{1, x, 2}, 0, api.ErrRange})
	}
	for _, x := range l {
		got, e := cloud.MiddleOf(x.value)
		expectOnly(t, "numbers", got, e, x.want)
	}
}
