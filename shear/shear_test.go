package shear_test

import (
	"math"
	"math/big"
	"testing"

	"glidepath/api"
	"glidepath/shear"
)

func leg(x, y, length int) api.ShearLeg { return api.ShearLeg{X: x, Y: y, Length: length} }

type badLeg struct {
	leg  api.ShearLeg
	want api.Errno
}

func badLegs() []badLeg {
	bad := []badLeg{
		{leg(0, 0, 0), api.ErrRange},
		{api.ShearLeg{}, api.ErrRange},
		{leg(3, 4, -5), api.ErrRange},
		{leg(600, 801, 1001), api.ErrRange},
		{leg(1001, 0, 1000), api.ErrRange},
		{leg(math.MinInt, math.MinInt, math.MinInt), api.ErrRange},
		{leg(0, 0, 1), api.ErrForm},
		{leg(3, 4, 6), api.ErrForm},
		{leg(3, 4, 7), api.ErrForm},
		{leg(4, 4, 5), api.ErrForm},
		{leg(3, -3, 5), api.ErrForm},
		{leg(1000, 1000, 1000), api.ErrForm},
		{leg(1, 1, 2), api.ErrForm},
		{leg(-1000, 1, 1000), api.ErrForm},
	}
	for _, x := range beyond(-1000, 1000) {
		bad = append(bad, badLeg{leg(x, 0, 1), api.ErrRange}, badLeg{leg(0, x, 1), api.ErrRange}, badLeg{leg(x, 0, x), api.ErrRange})
	}
	for _, x := range beyond(1, 1000) {
		bad = append(bad, badLeg{leg(0, 1, x), api.ErrRange}, badLeg{leg(3, 4, x), api.ErrRange})
	}
	return bad
}

// P5.1
func TestCheckLeg(t *testing.T) {
	for _, x := range badLegs() {
		expect(t, "leg", shear.CheckLeg(x.leg), x.want)
	}
	for _, l := range []api.ShearLeg{leg(3, 4, 5), leg(-4, 3, 5), leg(0, -1, 1), leg(1000, 0, 1000), leg(0, -1000, 1000), leg(-600, -800, 1000), leg(6, 8, 10)} {
		expect(t, "leg", shear.CheckLeg(l), api.OK)
	}
	count := 0
	for x := -40; x <= 40; x++ {
		for y := -40; y <= 40; y++ {
			for length := range 60 {
				want := api.OK
				switch {
				case length == 0:
					want = api.ErrRange
				case x*x+y*y != length*length:
					want = api.ErrForm
				default:
					count++
				}
				expect(t, "leg", shear.CheckLeg(leg(x, y, length)), want)
			}
		}
	}
	if count < 100 {
		t.Error("too few legs", count)
	}
}

// P5.1
func TestHeadwindOf(t *testing.T) {
	for _, x := range []struct {
		leg        api.ShearLeg
		u, v, want api.Range
	}{
		{leg(3, 4, 5), ends(10, 20), ends(-5, 0), ends(-12, -2)},
		{leg(3, 4, 5), ends(10, 21), ends(-5, 0), ends(-13, -2)},
		{leg(-3, 4, 5), ends(10, 21), ends(-5, 0), ends(6, 17)},
		{leg(3, -4, 5), ends(10, 20), ends(-5, 0), ends(-16, -6)},
		{leg(-3, -4, 5), ends(10, 20), ends(-5, 0), ends(2, 12)},
		{leg(3, 4, 5), ends(1, 1), ends(0, 0), ends(-1, 0)},
		{leg(-3, 4, 5), ends(1, 1), ends(0, 0), ends(0, 1)},
		{leg(3, 4, 5), ends(5, 5), ends(-10, -10), ends(5, 5)},
		{leg(1, 0, 1), ends(7, 9), ends(-10000, 10000), ends(-9, -7)},
		{leg(0, -1, 1), ends(-10000, 10000), ends(-1, 3), ends(-1, 3)},
		{leg(1000, 0, 1000), ends(-10000, 10000), ends(0, 0), ends(-10000, 10000)},
		{leg(-600, 800, 1000), ends(-10000, 10000), ends(-10000, 10000), ends(-14000, 14000)},
		{leg(3, 4, 5), ends(0, 0), ends(0, 0), ends(0, 0)},
	} {
		if r, e := shear.HeadwindOf(x.leg, api.ShearBox{U: x.u, V: x.v}); e != api.OK || r != x.want {
			t.Error(x, r, e)
		}
	}
}

// P5.1
func TestHeadwindErrors(t *testing.T) {
	calm := ends(0, 0)
	check := func(l api.ShearLeg, u, v api.Range, want api.Errno) {
		t.Helper()
		r, e := shear.HeadwindOf(l, api.ShearBox{U: u, V: v})
		expectOnly(t, "headwind", r, e, want)
	}
	for _, x := range badLegs() {
		check(x.leg, calm, calm, x.want)
		check(x.leg, ends(0, 10001), calm, x.want)
		check(x.leg, calm, ends(1, 0), x.want)
	}
	for _, x := range outside(-10000, 10000) {
		check(leg(3, 4, 5), x, calm, api.ErrRange)
		check(leg(3, 4, 5), calm, x, api.ErrRange)
		// An end that is too large in the second range comes before a wrong order in the first one.
		check(leg(3, 4, 5), ends(1, 0), x, api.ErrRange)
		check(leg(3, 4, 5), x, ends(1, 0), api.ErrRange)
	}
	for _, x := range reversed(-10000, 10000) {
		check(leg(3, 4, 5), x, calm, api.ErrOrder)
		check(leg(3, 4, 5), calm, x, api.ErrOrder)
	}
}

// roundedBy are the whole numbers around two fractions: at most the smaller one, at least the greater one.
func roundedBy(least, most *big.Rat) api.Range {
	lo := new(big.Int).Div(least.Num(), least.Denom()) // rounds down for denominators above 0
	hi := new(big.Int).Neg(most.Num())
	hi.Div(hi, most.Denom())
	return ends(int(lo.Int64()), -int(hi.Int64()))
}

// P5.1
func TestHeadwindByItsDefinition(t *testing.T) {
	d := draws{51}
	legs := []api.ShearLeg{leg(3, 4, 5), leg(-5, 12, 13), leg(8, -15, 17), leg(-20, -21, 29), leg(0, 7, 7), leg(-2, 0, 2), leg(280, 960, 1000)}
	for n := range 400 {
		l := legs[n%len(legs)]
		x := api.ShearBox{U: d.ends(-30, 30, 8), V: d.ends(-30, 30, 8)}
		var least, most *big.Rat
		for u := x.U.Lo; u <= x.U.Hi; u++ {
			for v := x.V.Lo; v <= x.V.Hi; v++ {
				wind := big.NewRat(int64(-(l.X*u + l.Y*v)), int64(l.Length))
				if least == nil || wind.Cmp(least) < 0 {
					least = wind
				}
				if most == nil || wind.Cmp(most) > 0 {
					most = wind
				}
			}
		}
		if r, e := shear.HeadwindOf(l, x); e != api.OK || r != roundedBy(least, most) {
			t.Fatal(l, x, r, e, least, most)
		}
	}
}

// P5.3
func TestLeadOf(t *testing.T) {
	for _, x := range []struct {
		distance    int
		speed, want api.Range
	}{
		{1000, ends(60, 80), ends(12, 17)},
		{0, ends(1, 1000), ends(0, 0)},
		{1, ends(1, 1000), ends(0, 1)},
		{1, ends(1000, 1000), ends(0, 1)},
		{999, ends(1000, 1000), ends(0, 1)},
		{1000, ends(1000, 1000), ends(1, 1)},
		{1001, ends(1000, 1000), ends(1, 2)},
		{50000, ends(1, 1), ends(50000, 50000)},
		{50000, ends(3, 7), ends(7142, 16667)},
	} {
		if r, e := shear.LeadOf(x.distance, x.speed); e != api.OK || r != x.want {
			t.Error(x, r, e)
		}
	}
	d := draws{53}
	for range 1000 {
		distance, speed := d.from(0, 3000), d.ends(1, 60, 30)
		r, e := shear.LeadOf(distance, speed)
		down := r.Lo*speed.Hi <= distance && (r.Lo+1)*speed.Hi > distance
		up := r.Hi*speed.Lo >= distance && (r.Hi-1)*speed.Lo < distance
		if e != api.OK || !down || !up {
			t.Fatal(distance, speed, r, e)
		}
	}
}

// P5.3
func TestLeadErrors(t *testing.T) {
	check := func(distance int, speed api.Range, want api.Errno) {
		t.Helper()
		r, e := shear.LeadOf(distance, speed)
		expectOnly(t, "lead", r, e, want)
	}
	for _, x := range beyond(0, 50000) {
		check(x, ends(1, 2), api.ErrRange)
		check(x, ends(2, 1), api.ErrRange)
	}
	for _, x := range outside(1, 1000) {
		check(7, x, api.ErrRange)
	}
	check(7, ends(0, 0), api.ErrRange)
	check(0, ends(0, 1), api.ErrRange)
	check(7, ends(-5, -4), api.ErrRange)
	for _, x := range reversed(1, 1000) {
		check(7, x, api.ErrOrder)
	}
}
