package wake_test

import (
	"math/big"
	"testing"

	"glidepath/api"
	"glidepath/wake"
)

// radial is the radial product of a vortex by its definition.
func radial(v api.WakeVortex, x api.WakeSetup, at api.WakePoint) *big.Rat {
	a, b := int64(at.Y-v.At.Y), int64(at.Z-v.At.Z)
	c, d := int64(at.Y-x.Lidar.Y), int64(at.Z-x.Lidar.Z)
	return big.NewRat(int64(v.Strength)*(a*d-b*c), a*a+b*b+int64(x.Core))
}

// radialOf is the radial product of a pair by its definition.
func radialOf(p api.WakePair, x api.WakeSetup, at api.WakePoint) int {
	left := radial(vortex(p.Centre.Y-p.Half, p.Centre.Z, p.Strength), x, at)
	right := radial(vortex(p.Centre.Y+p.Half, p.Centre.Z, -p.Strength), x, at)
	sum := new(big.Rat).Add(left, right)
	// Div rounds down, as the denominator is above 0.
	return int(new(big.Int).Div(sum.Num(), sum.Denom()).Int64())
}

// P6.1
func TestCheckPair(t *testing.T) {
	for _, x := range []api.WakePair{
		p(), pair(-1000, 0, 1, 1), pair(1000, 1000, 100, 10000), pair(0, 0, 100, 1), pair(0, 1000, 1, 10000),
	} {
		expect(t, "a pair", wake.CheckPair(x), api.OK)
	}
	for _, x := range badPairs() {
		expect(t, "no pair", wake.CheckPair(x), api.ErrRange)
	}
}

// P6.1
func TestVorticesOf(t *testing.T) {
	for _, c := range []struct {
		pair api.WakePair
		want [2]api.WakeVortex
	}{
		{p(), [2]api.WakeVortex{vortex(-3, 10, 10), vortex(3, 10, -10)}},
		{pair(5, 0, 1, 7), [2]api.WakeVortex{vortex(4, 0, 7), vortex(6, 0, -7)}},
		// Their positions may be greater in size than the middle may be.
		{pair(1000, 1000, 100, 10000), [2]api.WakeVortex{vortex(900, 1000, 10000), vortex(1100, 1000, -10000)}},
		{pair(-1000, 3, 100, 1), [2]api.WakeVortex{vortex(-1100, 3, 1), vortex(-900, 3, -1)}},
	} {
		if got, e := wake.VorticesOf(c.pair); got != c.want || e != api.OK {
			t.Errorf("%v: %v, %d, want %v", c.pair, got, e, c.want)
		}
	}
	for _, x := range badPairs() {
		got, e := wake.VorticesOf(x)
		expectOnly(t, "VorticesOf", got, e, api.ErrRange)
	}
}

// P6.1, example 1
func TestRadialByExamples(t *testing.T) {
	for _, c := range []struct {
		vortex api.WakeVortex
		setup  api.WakeSetup
		at     api.WakePoint
		want   api.Frac
	}{
		{vortex(0, 10, 10), s(), point(3, 14), api.Frac{Num: 150, Den: 13}},
		{vortex(0, 10, -10), s(), point(3, 14), api.Frac{Num: -150, Den: 13}},
		{vortex(0, 10, 0), s(), point(3, 14), api.Frac{Num: 0, Den: 1}},
		{vortex(-3, 10, 10), s(), point(3, 14), api.Frac{Num: 720, Den: 53}},
		{vortex(3, 10, -10), s(), point(3, 14), api.Frac{Num: 120, Den: 17}},
		// At the position of a vortex, and seen from the lidar's own.
		{vortex(7, 9, 10000), s(), point(7, 9), api.Frac{Num: 0, Den: 1}},
		{vortex(7, 9, 10000), setup(4, 4, 5), point(4, 4), api.Frac{Num: 0, Den: 1}},
		// On the line through the lidar and the vortex.
		{vortex(2, 2, 10000), s(), point(5, 5), api.Frac{Num: 0, Den: 1}},
	} {
		if got, e := wake.RadialBy(c.vortex, c.setup, c.at); got != c.want || e != api.OK {
			t.Errorf("%v, %v at %v: %v, %d, want %v", c.vortex, c.setup, c.at, got, e, c.want)
		}
	}
}

// P6.1, R11
func TestRadialByLarge(t *testing.T) {
	for _, c := range []struct {
		vortex api.WakeVortex
		setup  api.WakeSetup
		at     api.WakePoint
		want   api.Frac
		e      api.Errno
	}{
		// (a, b) = (-1, 0), (c, d) = (0, -1000): Strength 1000 / (1 + 1).
		{vortex(1, 0, 10000), setup(0, 1000, 1), point(0, 0), api.Frac{Num: 5000000, Den: 1}, api.OK},
		// (a, b) = (1000, 0), (c, d) = (0, -1000): -Strength 1000000 / (1000000 + 1).
		{vortex(-1000, 0, 1000), setup(0, 1000, 1), point(0, 0), api.Frac{Num: -1000000000, Den: 1000001}, api.OK},
		{vortex(-1000, 0, -1000), setup(0, 1000, 1), point(0, 0), api.Frac{Num: 1000000000, Den: 1000001}, api.OK},
		{vortex(-1000, 0, 1001), setup(0, 1000, 1), point(0, 0), api.Frac{}, api.ErrLarge},
		{vortex(-1000, 0, -1001), setup(0, 1000, 1), point(0, 0), api.Frac{}, api.ErrLarge},
		{vortex(-1000, 0, 10000), setup(0, 1000, 1), point(0, 0), api.Frac{}, api.ErrLarge},
		// (a, b) = (1000, 1), (c, d) = (999, 1000): 1001 999001 is greater by 1 than a part may be.
		{vortex(-1000, 999, 1001), setup(-999, 0, 1), point(0, 1000), api.Frac{}, api.ErrLarge},
		{vortex(-1000, 999, -1001), setup(-999, 0, 1), point(0, 1000), api.Frac{}, api.ErrLarge},
		{vortex(-1000, 999, 1000), setup(-999, 0, 2), point(0, 1000), api.Frac{Num: 999001000, Den: 1000003}, api.OK},
		// In lowest terms a part is no greater.
		{vortex(-1000, 0, 10000), setup(0, 1000, 10000), point(0, 0), api.Frac{Num: -1000000, Den: 101}, api.OK},
	} {
		got, e := wake.RadialBy(c.vortex, c.setup, c.at)
		if got != c.want || e != c.e {
			t.Errorf("%v, %v at %v: %v, %d, want %v, %d", c.vortex, c.setup, c.at, got, e, c.want, c.e)
		}
	}
}

// P6.1, P6.8: the opposite circulation has the opposite radial product.
func TestRadialByDefinition(t *testing.T) {
	draw := &draws{61}
	large := 0
	for i := range 3000 {
		most := []int{5, 30, 1000}[i%3]
		v, x, at := draw.vortex(most, 10*most), draw.setup(most, most), draw.position(most)
		want := radial(v, x, at)
		got, e := wake.RadialBy(v, x, at)
		opposite := v
		opposite.Strength = -v.Strength
		other, f := wake.RadialBy(opposite, x, at)
		if want.Num().CmpAbs(big.NewInt(api.MaxPart)) > 0 {
			large++
			expectOnly(t, "a large product", got, e, api.ErrLarge)
			expectOnly(t, "the opposite product", other, f, api.ErrLarge)
			continue
		}
		if int64(got.Num) != want.Num().Int64() || int64(got.Den) != want.Denom().Int64() || e != api.OK {
			t.Fatalf("%v, %v at %v: %v, %d, want %v", v, x, at, got, e, want)
		}
		if (other != api.Frac{Num: -got.Num, Den: got.Den}) || f != api.OK {
			t.Fatalf("%v, %v at %v: %v, %d, want the opposite of %v", opposite, x, at, other, f, got)
		}
	}
	if large == 0 {
		t.Error("no product was large")
	}
}

// P6.1: the errors of the vortex, the setup and the position, then ErrLarge.
func TestRadialByErrors(t *testing.T) {
	v, x, at := vortex(-1000, 0, 10000), setup(0, 1000, 1), point(0, 0)
	for _, wrong := range badVortices() {
		got, e := wake.RadialBy(wrong, x, at)
		expectOnly(t, "a vortex", got, e, api.ErrRange)
	}
	for _, wrong := range badSetups() {
		got, e := wake.RadialBy(v, wrong, at)
		expectOnly(t, "a setup", got, e, api.ErrRange)
	}
	for _, wrong := range badPositions() {
		got, e := wake.RadialBy(v, x, wrong)
		expectOnly(t, "a position", got, e, api.ErrRange)
	}
	for _, y := range []int{-1000, 1000} {
		for _, z := range []int{0, 1000} {
			_, e := wake.RadialBy(vortex(y, z, -10000), setup(y, z, 10000), point(y, z))
			expect(t, "the greatest parts", e, api.OK)
		}
	}
}

// P6.1, example 2
func TestRadialAtExamples(t *testing.T) {
	for _, c := range []struct {
		pair api.WakePair
		at   api.WakePoint
		want int
	}{
		{p(), point(3, 14), 20},
		{pair(0, 10, 3, 5), point(3, 14), 10},
		{pair(1, 10, 3, 5), point(3, 14), 14},
		{pair(1, 10, 3, 10), point(3, 14), 28},
		{pair(0, 10, 3, 1), point(0, 10), 6},
		// Below 0 it is rounded down, too: 1300/170 - 700/50 is above -7.
		{p(), point(10, 10), -7},
		{pair(0, 10, 3, 10), point(0, 0), 0},
	} {
		if got, e := wake.RadialAt(c.pair, s(), c.at); got != c.want || e != api.OK {
			t.Errorf("%v at %v: %d, %d, want %d", c.pair, c.at, got, e, c.want)
		}
	}
}

// P6.1, and P6.8: what is moved to the side together has the same radial product.
func TestRadialAtByDefinition(t *testing.T) {
	draw := &draws{62}
	below := 0
	for i := range 3000 {
		most := []int{5, 30, 700}[i%3]
		x, y, at := draw.pair(most, min(most, 100), 10*most), draw.setup(most, most), draw.position(most)
		got, e := wake.RadialAt(x, y, at)
		if want := radialOf(x, y, at); got != want || e != api.OK {
			t.Fatalf("%v, %v at %v: %d, %d, want %d", x, y, at, got, e, want)
		}
		if got < 0 {
			below++
		}
		by := draw.from(-300, 300)
		x.Centre.Y += by
		y.Lidar.Y += by
		at.Y += by
		if moved, e := wake.RadialAt(x, y, at); moved != got || e != api.OK {
			t.Fatalf("%v, %v at %v, moved by %d: %d, %d, want %d", x, y, at, by, moved, e, got)
		}
	}
	if below < 100 {
		t.Error("too few products are below 0")
	}
}

// P6.1: the greatest parts.
func TestRadialAtEnds(t *testing.T) {
	for _, y := range []int{-1000, 1000} {
		for _, z := range []int{0, 1000} {
			for _, core := range []int{1, 10000} {
				for _, half := range []int{1, 100} {
					for _, at := range []api.WakePoint{point(-1000, 0), point(1000, 0), point(-1000, 1000), point(1000, 1000), point(-999, 1), point(900, 3)} {
						x, lidar := pair(y, z, half, 10000), setup(-y, 1000-z, core)
						got, e := wake.RadialAt(x, lidar, at)
						if want := radialOf(x, lidar, at); got != want || e != api.OK {
							t.Errorf("%v, %v at %v: %d, %d, want %d", x, lidar, at, got, e, want)
						}
					}
				}
			}
		}
	}
}

// Edge cases: at the position of a vortex its product is 0, and seen from the lidar's own position every product is.
func TestRadialAtZero(t *testing.T) {
	draw := &draws{63}
	for range 300 {
		x, y := draw.pair(30, 30, 300), draw.setup(30, 30)
		both, e := wake.VorticesOf(x)
		expect(t, "VorticesOf", e, api.OK)
		for i, v := range both {
			if got, e := wake.RadialBy(v, y, v.At); got != (api.Frac{Num: 0, Den: 1}) || e != api.OK {
				t.Errorf("%v at itself: %v, %d", v, got, e)
			}
			if got, e := wake.RadialBy(v, y, y.Lidar); got != (api.Frac{Num: 0, Den: 1}) || e != api.OK {
				t.Errorf("%v at the lidar: %v, %d", v, got, e)
			}
			// The product of the pair is that of the other one alone.
			alone := radial(both[1-i], y, v.At)
			want := int(new(big.Int).Div(alone.Num(), alone.Denom()).Int64())
			if got, e := wake.RadialAt(x, y, v.At); got != want || e != api.OK {
				t.Errorf("%v at %v: %d, %d, want %d", x, v.At, got, e, want)
			}
		}
		if got, e := wake.RadialAt(x, y, y.Lidar); got != 0 || e != api.OK {
			t.Errorf("%v at the lidar: %d, %d", x, got, e)
		}
	}
}

// P6.1
func TestRadialAtErrors(t *testing.T) {
	for _, wrong := range badPairs() {
		got, e := wake.RadialAt(wrong, s(), point(0, 0))
		expectOnly(t, "a pair", got, e, api.ErrRange)
	}
	for _, wrong := range badSetups() {
		got, e := wake.RadialAt(p(), wrong, point(3, 14))
		expectOnly(t, "a setup", got, e, api.ErrRange)
	}
	for _, wrong := range badPositions() {
		got, e := wake.RadialAt(p(), s(), wrong)
		expectOnly(t, "a position", got, e, api.ErrRange)
	}
}

// P6.1, example 2
func TestMisfitOf(t *testing.T) {
	for _, c := range []struct {
		readings []api.WakeReading
		want     int
	}{
		{nil, 0},
		{[]api.WakeReading{}, 0},
		{[]api.WakeReading{reading(3, 14, 18)}, 2},
		{[]api.WakeReading{reading(3, 14, 20)}, 0},
		{[]api.WakeReading{reading(3, 14, 23)}, 3},
		{[]api.WakeReading{reading(3, 14, 23), reading(3, 14, 18), reading(0, 0, -7)}, 12},
		{[]api.WakeReading{reading(3, 14, -1000000000), reading(0, 0, 1000000000)}, 2000000020},
	} {
		if got, e := wake.MisfitOf(p(), s(), c.readings); got != c.want || e != api.OK {
			t.Errorf("%v: %d, %d, want %d", c.readings, got, e, c.want)
		}
	}
	draw := &draws{64}
	for i := range 500 {
		x, y, l := draw.pair(30, 30, 300), draw.setup(30, 30), draw.readings(i%13, 30, 300)
		want := 0
		for _, z := range l {
			off := radialOf(x, y, z.At) - z.Product
			want += max(off, -off)
		}
		if got, e := wake.MisfitOf(x, y, l); got != want || e != api.OK {
			t.Fatalf("%v, %v, %v: %d, %d, want %d", x, y, l, got, e, want)
		}
	}
}

// P6.1
func TestMisfitOfErrors(t *testing.T) {
	many := make([]api.WakeReading, 13)
	for _, wrong := range badPairs() {
		got, e := wake.MisfitOf(wrong, s(), many)
		expectOnly(t, "a pair", got, e, api.ErrRange)
	}
	for _, wrong := range badSetups() {
		got, e := wake.MisfitOf(p(), wrong, many)
		expectOnly(t, "a setup", got, e, api.ErrRange)
	}
	for _, wrong := range badReadings() {
		got, e := wake.MisfitOf(p(), s(), wrong.value)
		expectOnly(t, "readings", got, e, wrong.want)
	}
	_, e := wake.MisfitOf(p(), s(), []api.WakeReading{reading(-1000, 0, -1000000000), reading(1000, 1000, 1000000000)})
	expect(t, "the greatest readings", e, api.OK)
}
