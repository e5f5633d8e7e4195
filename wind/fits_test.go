package wind_test

import (
	"math/big"
	"testing"

	"glidepath/api"
	"glidepath/wind"
)

// differences are the middles minus the products of a wind.
func differences(l []api.WindReading, v [3]*big.Rat) []*big.Rat {
	var all []*big.Rat
	for _, x := range l {
		middle := rat(x.Value.Lo+x.Value.Hi, 2)
		all = append(all, middle.Sub(middle, along(v, x.Direction)))
	}
	return all
}

func squares(l []*big.Rat) *big.Rat {
	sum := new(big.Rat)
	for _, x := range l {
		sum.Add(sum, new(big.Rat).Mul(x, x))
	}
	return sum
}

// firstWrong returns the first coordinate whose equation does not hold, or 3.
func firstWrong(l []api.WindReading, v [3]*big.Rat) int {
	for k := range 3 {
		sum := new(big.Rat)
		for i, x := range differences(l, v) {
			sum.Add(sum, x.Mul(x, whole(l[i].Direction[k])))
		}
		if sum.Sign() != 0 {
			return k
		}
	}
	return 3
}

// P4.2
func TestFitOf(t *testing.T) {
	for _, x := range []struct {
		readings []api.WindReading
		fit      api.WindVector
		residual api.Frac
	}{
		{r(), vector(4, 0, 1, 1), frac(0, 1)},
		{r(reading(1, 0, 0, 6, 6)), vector(5, 0, 1, 1), frac(2, 1)},
		{readings(reading(2, 0, 0, 1, 2), reading(0, 1, 0, 0, 0), reading(0, 0, 1, 0, 0)), vector(3, 0, 0, 4), frac(0, 1)},
		{readings(reading(1, 0, 0, 0, 0), reading(0, 1, 0, 0, 0), reading(0, 0, 1, 0, 0)), vector(0, 0, 0, 1), frac(0, 1)},
		{r(reading(0, 1, 0, 0, 1)), vector(16, 1, 4, 4), frac(1, 8)},
		{r(reading(0, 1, 0, 0, 1), reading(0, 2, 0, -1, -1)), vector(16, -1, 4, 4), frac(7, 8)},
		// A determinant below 0.
		{readings(reading(0, 1, 0, 0, 0), reading(1, 0, 0, 3, 5), reading(0, 0, 1, 0, 2)), vector(4, 0, 1, 1), frac(0, 1)},
		// Readings that contradict each other have a fit, too.
		{r(reading(1, 0, 0, -10000, -10000), reading(1, 0, 0, 10000, 10000), reading(0, 0, -1, -1, -1)), vector(4, 0, 3, 3), frac(600000032, 3)},
	} {
		if v, e := wind.FitOf(x.readings); e != api.OK || v != x.fit {
			t.Error(x, v, e)
		}
		if f, e := wind.ResidualOf(x.readings); e != api.OK || f != x.residual {
			t.Error(x, f, e)
		}
		if k, e := wind.CheckFit(x.readings, x.fit); e != api.OK || k != 0 {
			t.Error(x, k, e)
		}
	}
}

// P4.2
func TestResidualIsLarge(t *testing.T) {
	for _, x := range []struct {
		string
		residual api.Frac
	}{
		{"9 -8 9 0 0;-9 9 -9 -9000 -9000;-8 -8 9 0 0;9 9 -8 0 0", frac(936360000, 31)},
		{"9 0 0 -1431 -1430;7 0 0 9998 9999;0 1 0 0 0;0 0 1 0 0", frac(1000000000, 13)},
		{"-8 9 -9 10000 10000;9 9 9 10000 10000;9 9 9 8 8;9 9 -9 10000 10000;9 9 9 -10000 -10000;-8 9 9 12 12", frac(1000000344, 5)},
		{"9 9 -9 0 0;-8 -9 9 0 0;-8 9 9 0 0;9 9 -8 -10000 -10000", frac(1080000000, 59)},
		{"9 -8 9 0 0;-9 9 -9 -10000 -10000;-8 -8 9 0 0;9 9 -8 0 0", frac(1156000000, 31)},
	} {
		l, e := wind.ParseReadings(x.string)
		expect(t, "parse", e, api.OK)
		residual, e := wind.ResidualOf(l)
		if x.residual.Num > 1000000000 {
			expectOnly(t, x.string, residual, e, api.ErrLarge)
		} else if residual != x.residual || e != api.OK {
			t.Error(x, residual, e)
		}
		fit, e := wind.FitOf(l)
		if e != api.OK || squares(differences(l, partsOf(fit))).Cmp(rat(x.residual.Num, x.residual.Den)) != 0 {
			t.Error(x, fit, e)
		}
	}
}

// P4.2
func TestCheckFit(t *testing.T) {
	for _, x := range []struct {
		readings []api.WindReading
		wind     api.WindVector
		k        int
		want     api.Errno
	}{
		{r(), vector(4, 0, 1, 1), 0, api.OK},
		{r(), vector(5, 0, 1, 1), 0, api.ErrProof},
		{r(), vector(5, 1, 2, 1), 0, api.ErrProof},
		{r(), vector(4, 1, 1, 1), 1, api.ErrProof},
		{r(), vector(4, -1, 2, 1), 1, api.ErrProof},
		{r(), vector(4, 0, 0, 1), 2, api.ErrProof},
		{r(), vector(400000001, 0, 100000000, 100000000), 0, api.ErrProof},
		{r(), vector(4000000000, 1, 1000000000, 1000000000), 1, api.ErrProof},
		{r(), vector(4000000000, 0, 999999999, 1000000000), 2, api.ErrProof},
		{r(), vector(1000000000000, -1000000000000, 1000000000000, 1), 0, api.ErrProof},
		{r(), vector(999999999999, 0, 1, 1000000000), 0, api.ErrProof},
		// Equations that are wrong by turns: the first one counts.
		{readings(reading(1, 1, 0, 0, 0), reading(0, 1, 1, 0, 0), reading(0, 0, 1, 0, 0)), vector(0, 0, 1, 1), 1, api.ErrProof},
		{readings(reading(1, 1, 0, 0, 0), reading(0, 1, 1, 0, 0), reading(0, 0, 1, 0, 0)), vector(2, -2, 1, 1), 1, api.ErrProof},
	} {
		if k, e := wind.CheckFit(x.readings, x.wind); k != x.k || e != x.want {
			t.Error(x, k, e)
		}
	}
	for _, x := range badWinds {
		k, e := wind.CheckFit(r(), x.wind)
		expectOnly(t, "wind", k, e, x.want)
		k, e = wind.CheckFit(plane(), x.wind)
		expectOnly(t, "open", k, e, api.ErrOpen)
	}
	k, e := wind.CheckFit(plane(), vector(0, 0, 0, 1))
	expectOnly(t, "open", k, e, api.ErrOpen)
	for _, x := range badReadings() {
		for _, v := range []api.WindVector{vector(4, 0, 1, 1), vector(0, 0, 0, 0)} {
			k, e := wind.CheckFit(x.readings, v)
			expectOnly(t, "readings", k, e, x.want)
		}
	}
}

// P4.2, P4.8
func TestFitByItsDefinition(t *testing.T) {
	d := draws{2}
	count := 0
	for n := range 600 {
		l := d.readings(d.from(3, 6), 1+n%9, []int{3, 100, 10000}[n%3])
		fit, e := wind.FitOf(l)
		if rankBy(directionsOf(l)) < 3 {
			expectOnly(t, "open", fit, e, api.ErrOpen)
			continue
		}
		count++
		if e != api.OK || fit.Den < 1 || isDivided(fit.Den, fit.X, fit.Y, fit.Z) || firstWrong(l, partsOf(fit)) != 3 {
			t.Fatal(l, fit, e)
		}
		if k, e := wind.CheckFit(l, fit); k != 0 || e != api.OK {
			t.Fatal(l, fit, k, e)
		}
		left := squares(differences(l, partsOf(fit)))
		isLarge := !left.Num().IsInt64() || left.Num().Int64() > 1000000000 || left.Denom().Int64() > 1000000000
		residual, e := wind.ResidualOf(l)
		if isLarge {
			expectOnly(t, "large", residual, e, api.ErrLarge)
		} else if e != api.OK || int64(residual.Num) != left.Num().Int64() || int64(residual.Den) != left.Denom().Int64() {
			t.Fatal(l, residual, left, e)
		}
		for range 10 {
			other := vector(d.from(-30, 30), d.from(-30, 30), d.from(-30, 30), 1)
			if other == fit {
				continue
			}
			if k, e := wind.CheckFit(l, other); e != api.ErrProof || k != firstWrong(l, partsOf(other)) {
				t.Fatal(l, other, k, e)
			}
			if squares(differences(l, partsOf(other))).Cmp(left) < 0 {
				t.Fatal(l, fit, other)
			}
		}
	}
	if count < 300 {
		t.Error("too few cases", count)
	}
}

// P4.8
func TestWholeWindsAreFitted(t *testing.T) {
	d := draws{8}
	count := 0
	for n := range 400 {
		size := 1 + n%9
		v := [3]int{d.from(-300, 300), d.from(-300, 300), d.from(-300, 300)}
		l := d.around(v, d.from(3, 6), size, 0)
		if rankBy(directionsOf(l)) < 3 {
			continue
		}
		count++
		if fit, e := wind.FitOf(l); e != api.OK || fit != vector(v[0], v[1], v[2], 1) {
			t.Fatal(l, v, fit, e)
		}
		if f, e := wind.ResidualOf(l); e != api.OK || f != frac(0, 1) {
			t.Fatal(l, v, f, e)
		}
	}
	if count < 200 {
		t.Error("too few cases", count)
	}
}

// P4.8
func TestNoWholeWindFitsBetter(t *testing.T) {
	d := draws{88}
	for range 100 {
		l := d.readings(d.from(3, 6), 4, 40)
		fit, e := wind.FitOf(l)
		if e != api.OK {
			continue
		}
		left := squares(differences(l, partsOf(fit)))
		x, y, z := fit.X/fit.Den, fit.Y/fit.Den, fit.Z/fit.Den
		for near := range 125 {
			v := vector(x-2+near%5, y-2+near/5%5, z-2+near/25, 1)
			if c := squares(differences(l, partsOf(v))).Cmp(left); c < 0 || c == 0 && v != fit {
				t.Fatal(l, fit, v)
			}
		}
	}
}

// P4.2
func TestGreatestFitsAreExact(t *testing.T) {
	d := draws{22}
	for n := range 400 {
		l := make([]api.WindReading, 3+n%4)
		for i := range l {
			for k := range 3 {
				l[i].Direction[k] = []int{-9, 9, 8, -8}[d.from(0, 3)]
			}
			value := []int{-10000, 10000, 9999}[d.from(0, 2)]
			l[i].Value = ends(value, value)
		}
		fit, e := wind.FitOf(l)
		if rankBy(directionsOf(l)) < 3 {
			expectOnly(t, "open", fit, e, api.ErrOpen)
			continue
		}
		if e != api.OK || firstWrong(l, partsOf(fit)) != 3 {
			t.Fatal(l, fit, e)
		}
		if k, e := wind.CheckFit(l, fit); k != 0 || e != api.OK {
			t.Fatal(l, fit, k, e)
		}
		left := squares(differences(l, partsOf(fit)))
		residual, e := wind.ResidualOf(l)
		if left.Num().Cmp(big.NewInt(1000000000)) > 0 {
			expectOnly(t, "large", residual, e, api.ErrLarge)
		} else if e != api.OK || rat(residual.Num, residual.Den).Cmp(left) != 0 || int64(residual.Den) != left.Denom().Int64() {
			t.Fatal(l, residual, left, e)
		}
	}
}
