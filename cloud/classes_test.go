package cloud_test

import (
	"slices"
	"testing"

	"glidepath/api"
	"glidepath/cloud"
)

func class(a, b, c, d int) api.CloudClass {
	return api.CloudClass{Signals: api.Range{Lo: a, Hi: b}, Parts: api.Range{Lo: c, Hi: d}}
}

func signal(signal, part int) api.CloudSignal { return api.CloudSignal{Signal: signal, Part: part} }

// seven are the classes of the examples.
func seven() []api.CloudClass {
	return []api.CloudClass{class(0, 10, 0, 1000), class(5, 100, 0, 200)}
}

// classOf says whether there is one, too.
func classOf(c []api.CloudClass, x api.CloudSignal) (int, bool) {
	for i, class := range c {
		isOut := x.Signal < class.Signals.Lo || x.Signal > class.Signals.Hi || x.Part < class.Parts.Lo || x.Part > class.Parts.Hi
		if !isOut {
			return i, true
		}
	}
	return 0, false
}

func isSure(c []api.CloudClass, x api.CloudSignal, off int) bool {
	want, _ := classOf(c, x)
	for s := x.Signal - off; s <= x.Signal+off; s++ {
		for p := x.Part - off; p <= x.Part+off; p++ {
			if got, ok := classOf(c, signal(s, p)); !ok || got != want {
				return false
			}
		}
	}
	return true
}

// classes lie near one another, and near their limits.
func (d *draws) classes(count int) []api.CloudClass {
	between := func(least, most int) api.Range {
		lo := d.from(least, most)
		return api.Range{Lo: lo, Hi: d.from(lo, most)}
	}
	var c []api.CloudClass
	for range count {
		x := class(0, 10000, 0, 1000)
		if d.from(0, 3) > 0 {
			x.Signals = between(0, 40)
		}
		if d.from(0, 3) > 0 {
			x.Parts = between(960, 1000)
		}
		c = append(c, x)
	}
	return c
}

// P8.5
func TestCheckClasses(t *testing.T) {
	draw := &draws{104}
	good := [][]api.CloudClass{seven(), {class(0, 0, 0, 0)}, {class(10000, 10000, 1000, 1000)}, slices.Repeat([]api.CloudClass{class(0, 10000, 0, 1000)}, 10), make([]api.CloudClass, 10)}
	for i := range 50 {
		good = append(good, draw.classes(1+i%10))
	}
	for _, c := range good {
		if i, e := cloud.CheckClasses(c); i != 0 || e != api.OK {
			t.Errorf("%v: %d, %d", c, i, e)
		}
	}
	for _, x := range badClasses() {
		if i, e := cloud.CheckClasses(x.value); i != x.index || e != x.want {
			t.Errorf("%v: %d, %d, want %d, %d", x.value, i, e, x.index, x.want)
		}
	}
}

// P8.5, example 7, edge cases
func TestClassOfExamples(t *testing.T) {
	for _, c := range []struct {
		signal api.CloudSignal
		want   int
		sure   int // up to which error; below 0 if there is no class
	}{
		{signal(8, 100), 0, 2}, {signal(12, 100), 1, 1}, {signal(12, 300), 0, -1},
		// Of overlapping classes the first one counts.
		{signal(5, 0), 0, 0}, {signal(5, 5), 0, 5}, {signal(10, 200), 0, 0}, {signal(11, 200), 1, 0}, {signal(11, 201), 0, -1}, {signal(10, 201), 0, 0}, {signal(100, 5), 1, 0}, {signal(101, 5), 0, -1},
		{signal(90, 190), 1, 10}, {signal(89, 189), 1, 10}, {signal(91, 100), 1, 9},
		// Numbers outside of their limits belong to no class.
		{signal(0, 500), 0, 0}, {signal(1, 500), 0, 1}, {signal(5, 1000), 0, 0}, {signal(5, 998), 0, 2}, {signal(5, 2), 0, 2}, {signal(5, 995), 0, 5}, {signal(4, 995), 0, 4},
	} {
		got, e := cloud.ClassOf(seven(), c.signal)
		if c.sure < 0 {
			expectOnly(t, "none", got, e, api.ErrNone)
		} else if got != c.want || e != api.OK {
			t.Errorf("%v: %d, %d, want %d", c.signal, got, e, c.want)
		}
		for off := range 11 {
			isSure, e := cloud.IsSureClass(seven(), c.signal, off)
			if c.sure < 0 {
				expectOnly(t, "none", isSure, e, api.ErrNone)
			} else if isSure != (off <= c.sure) || e != api.OK {
				t.Errorf("%v, %d: %v, %d", c.signal, off, isSure, e)
			}
		}
	}
	all := []api.CloudClass{class(0, 10000, 0, 1000)}
	for _, c := range []struct {
		signal api.CloudSignal
		sure   int
	}{{signal(10000, 500), 0}, {signal(9999, 500), 1}, {signal(9990, 990), 10}, {signal(10, 10), 10}, {signal(9, 10), 9}, {signal(10, 9), 9}, {signal(9990, 991), 9}} {
		for off := range 11 {
			if got, e := cloud.IsSureClass(all, c.signal, off); got != (off <= c.sure) || e != api.OK {
				t.Errorf("%v, %d: %v, %d", c.signal, off, got, e)
			}
		}
	}
	// A class between may be small, and another one may be hidden by the first one.
	hole := []api.CloudClass{class(50, 50, 50, 50), class(0, 100, 0, 100), class(0, 10000, 0, 1000), class(7, 7, 7, 7)}
	for _, c := range []struct {
		signal    api.CloudSignal
		off, want int
		sure      bool
	}{{signal(50, 50), 0, 0, true}, {signal(50, 50), 1, 0, false}, {signal(53, 48), 3, 1, false}, {signal(53, 48), 2, 1, true}, {signal(47, 53), 3, 1, false}, {signal(60, 60), 10, 1, false}, {signal(61, 50), 10, 1, true}, {signal(10, 10), 10, 1, true}} {
		class, e := cloud.ClassOf(hole, c.signal)
		sure, e2 := cloud.IsSureClass(hole, c.signal, c.off)
		if class != c.want || e != api.OK || sure != c.sure || e2 != api.OK {
			t.Errorf("%v, %d: %d, %d, %v, %d", c.signal, c.off, class, e, sure, e2)
		}
	}
}

// P8.5, P8.12
func TestClassOf(t *testing.T) {
	draw := &draws{105}
	sureOnes := 0
	for i := range 1500 {
		c := draw.classes(1 + i%10)
		kept := slices.Clone(c)
		x := signal(draw.from(0, 45), draw.from(955, 1000))
		off := draw.from(0, 10)
		want, ok := classOf(c, x)
		got, e := cloud.ClassOf(c, x)
		sure, e2 := cloud.IsSureClass(c, x, off)
		if !ok {
			expectOnly(t, "ClassOf", got, e, api.ErrNone)
			expectOnly(t, "IsSureClass", sure, e2, api.ErrNone)
			continue
		}
		if got != want || e != api.OK || sure != isSure(c, x, off) || e2 != api.OK {
			t.Fatalf("%v, %v, %d: %d, %d, %v, %d", c, x, off, got, e, sure, e2)
		}
		if !slices.Equal(c, kept) {
			t.Fatalf("%v changed from %v", c, kept)
		}
		if !sure {
			continue
		}
		sureOnes++
		if less, e := cloud.IsSureClass(c, x, draw.from(0, off)); !less || e != api.OK {
			t.Fatalf("%v, %v: sure up to %d, but not less, %d", c, x, off, e)
		}
		near, e := cloud.ClassOf(c, signal(x.Signal+draw.from(-off, off), x.Part+draw.from(-off, off)))
		if near != got || e != api.OK {
			t.Fatalf("%v, %v: sure up to %d, but %d, %d is near", c, x, off, near, e)
		}
	}
	if sureOnes < 100 {
		t.Errorf("%d are sure", sureOnes)
	}
}

// P8.5
func TestClassOfErrors(t *testing.T) {
	for _, x := range badClasses() {
		for _, s := range []api.CloudSignal{signal(0, 0), signal(-1, 1001)} {
			for _, off := range []int{0, -1} {
				class, e := cloud.ClassOf(x.value, s)
				expectOnly(t, "ClassOf", class, e, x.want)
				sure, e := cloud.IsSureClass(x.value, s, off)
				expectOnly(t, "IsSureClass", sure, e, x.want)
			}
		}
	}
	var signals []api.CloudSignal
	for _, x := range beyond(0, 10000) {
		signals = append(signals, signal(x, 0), signal(x, -1))
	}
	for _, x := range beyond(0, 1000) {
		signals = append(signals, signal(0, x), signal(20000, x))
	}
	for _, s := range signals {
		class, e := cloud.ClassOf(seven(), s)
		expectOnly(t, "ClassOf", class, e, api.ErrRange)
		for _, off := range []int{0, 10, 11} {
			sure, e := cloud.IsSureClass(seven(), s, off)
			expectOnly(t, "IsSureClass", sure, e, api.ErrRange)
		}
	}
	for _, off := range beyond(0, 10) {
		for _, s := range []api.CloudSignal{signal(8, 100), signal(12, 300)} {
			sure, e := cloud.IsSureClass(seven(), s, off)
			expectOnly(t, "off", sure, e, api.ErrRange)
		}
	}
	for _, s := range []api.CloudSignal{signal(12, 300), signal(101, 0), signal(11, 201), signal(10000, 1000)} {
		class, e := cloud.ClassOf(seven(), s)
		expectOnly(t, "ClassOf", class, e, api.ErrNone)
		sure, e := cloud.IsSureClass(seven(), s, 0)
		expectOnly(t, "IsSureClass", sure, e, api.ErrNone)
	}
}
