package line_test

import (
	"math"
	"testing"

	"glidepath/api"
	"glidepath/line"
)

const most = 1000000000

func scale(zero, width, by int) api.LineScale {
	return api.LineScale{Zero: zero, Width: width, By: by}
}

// P2.7
func TestSpeedAt(t *testing.T) {
	for _, x := range []struct {
		position api.Frac
		scale    api.LineScale
		want     api.Frac
	}{
		{frac(11, 10), scale(2, 50, 1), frac(-45, 1)},
		{frac(2, 1), scale(2, 50, 7), frac(0, 1)},
		{frac(0, 1), scale(0, 10000, 10000), frac(0, 1)},
		{frac(5, 3), scale(1, 9, 4), frac(3, 2)},
		{frac(15, 1), scale(15, 1, 1), frac(0, 1)},
		{frac(most, 1), scale(0, 1, 1), frac(most, 1)},
		{frac(-most, 1), scale(0, 1, 1), frac(-most, 1)},
		{frac(1, most), scale(0, 1, 1), frac(1, most)},
		{frac(most, 1), scale(0, 10000, 10000), frac(most, 1)},
		{frac(most, 7), scale(0, 7, 10000), frac(100000, 1)},
	} {
		if v, e := line.SpeedAt(x.position, x.scale); e != api.OK || v != x.want {
			t.Error(x, v, e)
		}
		if p, e := line.PositionOf(x.want, x.scale); e != api.OK || p != x.position {
			t.Error(x, p, e)
		}
	}
}

func TestSpeedErrors(t *testing.T) {
	for _, x := range badFractions {
		for _, s := range []api.LineScale{scale(0, 1, 1), {}} {
			v, e := line.SpeedAt(x.fraction, s)
			expectOnly(t, "position", v, e, x.want)
			p, e := line.PositionOf(x.fraction, s)
			expectOnly(t, "speed", p, e, x.want)
		}
	}
	for _, s := range []api.LineScale{
		{}, scale(-1, 1, 1), scale(16, 1, 1), scale(0, 0, 1), scale(0, 10001, 1), scale(0, 1, 0), scale(0, 1, 10001), scale(0, -1, -1),
		scale(math.MinInt, 1, 1), scale(math.MaxInt, 1, 1), scale(0, math.MinInt, 1), scale(0, math.MaxInt, 1), scale(0, 1, math.MinInt), scale(0, 1, math.MaxInt),
	} {
		v, e := line.SpeedAt(frac(most, 1), s)
		expectOnly(t, "scale", v, e, api.ErrRange)
		p, e := line.PositionOf(frac(most, 1), s)
		expectOnly(t, "scale", p, e, api.ErrRange)
	}
}

// P2.7
func TestLargeSpeeds(t *testing.T) {
	for _, x := range []struct {
		position api.Frac
		scale    api.LineScale
	}{
		{frac(most, 1), scale(0, 2, 1)},
		{frac(-most, 1), scale(1, 1, 1)},
		{frac(-most, 1), scale(15, 10000, 1)},
		{frac(1, most), scale(0, 1, 3)},
		{frac(1, most), scale(0, 9999, 10000)},
		{frac(most-1, most), scale(15, 10000, 9999)},
	} {
		v, e := line.SpeedAt(x.position, x.scale)
		expectOnly(t, "speed", v, e, api.ErrLarge)
	}
	for _, x := range []struct {
		speed api.Frac
		scale api.LineScale
	}{
		{frac(most, 1), scale(0, 1, 2)},
		{frac(most, 1), scale(1, 1, 1)},
		{frac(-most, 1), scale(0, 1, 10000)},
		{frac(1, most), scale(0, 3, 1)},
		{frac(most, most-1), scale(15, 10000, 9999)},
	} {
		p, e := line.PositionOf(x.speed, x.scale)
		expectOnly(t, "position", p, e, api.ErrLarge)
	}
	// Parts that are too large only before they are brought to lowest terms.
	if v, e := line.SpeedAt(frac(999900000, 7), scale(0, 10000, 9999)); e != api.OK || v != frac(most, 7) {
		t.Error(v, e)
	}
	if p, e := line.PositionOf(frac(999900000, 7), scale(0, 9999, 10000)); e != api.OK || p != frac(most, 7) {
		t.Error(p, e)
	}
}

// P2.14
func TestThereAndBack(t *testing.T) {
	d := draws{14}
	for range 500 {
		s := scale(d.from(0, 15), d.from(1, 10000), d.from(1, 10000))
		x := lowest(d.from(-1500, 1500), d.from(1, 60))
		v, e := line.SpeedAt(x, s)
		if e != api.OK || v != lowest(v.Num, v.Den) {
			t.Fatal(x, s, v, e)
		}
		if v.Num*x.Den*s.By != (x.Num-s.Zero*x.Den)*s.Width*v.Den {
			t.Fatal(x, s, v)
		}
		if back, e := line.PositionOf(v, s); e != api.OK || back != x {
			t.Fatal(x, s, v, back, e)
		}
	}
}
