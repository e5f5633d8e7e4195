package shear_test

import (
	"math"
	"reflect"
	"slices"
	"testing"

	"glidepath/api"
	"glidepath/shear"
)

// P5.2
func TestCheckProfile(t *testing.T) {
	for _, x := range badProfiles() {
		if i, e := shear.CheckProfile(x.gates); i != x.index || e != x.want {
			t.Error(x.gates, i, e, x.index, x.want)
		}
	}
	full := make([]api.ShearGate, 20)
	for i := range full {
		full[i] = gate(50000-19+i, 10000, 10000)
	}
	for _, l := range [][]api.ShearGate{nil, {}, p(), full, {gate(0, -10000, 10000), gate(50000, -10000, -10000)}} {
		if i, e := shear.CheckProfile(l); i != 0 || e != api.OK {
			t.Error(l, i, e)
		}
	}
}

// profileAnswers are all results for a profile, with the errors of what else is wrong.
func profileAnswers(l []api.ShearGate, isWrong bool) map[string]func() (any, api.Errno) {
	from, to, length, limit, span := 0, 1, 1500, 50, ends(0, 2000)
	if isWrong {
		from, to, length, limit, span = -1, -1, -1, 0, ends(1, 0)
	}
	return map[string]func() (any, api.Errno){
		"loss":     func() (any, api.Errno) { return shear.LossBetween(l, from, to) },
		"strong":   func() (any, api.Errno) { return shear.StrongestLoss(l, length) },
		"gain":     func() (any, api.Errno) { return shear.StrongestGain(l, length) },
		"possible": func() (any, api.Errno) { return shear.PossibleLoss(l, length) },
		"ramps":    func() (any, api.Errno) { return shear.RampsIn(l, limit) },
		"blind":    func() (any, api.Errno) { return shear.BlindIn(l, span, length) },
	}
}

// P5.2, P5.3
func TestProfileErrors(t *testing.T) {
	for _, x := range badProfiles() {
		for _, isWrong := range []bool{false, true} {
			for what, answer := range profileAnswers(x.gates, isWrong) {
				result, e := answer()
				expectOnly(t, what, result, e, x.want)
			}
		}
	}
}

// P5.2
func TestLossBetween(t *testing.T) {
	for _, x := range []struct {
		gates    []api.ShearGate
		from, to int
		want     api.Range
	}{
		{p(), 0, 2, ends(600, 800)},
		{p(), 1, 2, ends(500, 650)},
		{p(), 0, 1, ends(50, 200)},
		{[]api.ShearGate{gate(0, 5, 5), gate(1, 7, 7)}, 0, 1, ends(-2, -2)},
		{[]api.ShearGate{gate(0, 7, 7), gate(1, 5, 5)}, 0, 1, ends(2, 2)},
		{[]api.ShearGate{gate(0, -10000, 10000), gate(50000, -10000, 10000)}, 0, 1, ends(-20000, 20000)},
	} {
		if r, e := shear.LossBetween(x.gates, x.from, x.to); e != api.OK || r != x.want {
			t.Error(x, r, e)
		}
	}
	for _, x := range []struct {
		gates    []api.ShearGate
		from, to int
		want     api.Errno
	}{
		{nil, 0, 0, api.ErrMissing},
		{nil, 0, 1, api.ErrMissing},
		{p()[:1], 0, 1, api.ErrMissing},
		{p()[:1], 0, 0, api.ErrOrder},
		{p(), -1, 1, api.ErrMissing},
		{p(), -1, -2, api.ErrMissing},
		{p(), 3, 1, api.ErrMissing},
		{p(), 1, 3, api.ErrMissing},
		{p(), 1, -1, api.ErrMissing},
		{p(), 2, -1, api.ErrMissing},
		{p(), math.MinInt, 1, api.ErrMissing},
		{p(), 0, math.MaxInt, api.ErrMissing},
		{p(), 0, 0, api.ErrOrder},
		{p(), 2, 2, api.ErrOrder},
		{p(), 1, 0, api.ErrOrder},
		{p(), 2, 0, api.ErrOrder},
	} {
		r, e := shear.LossBetween(x.gates, x.from, x.to)
		expectOnly(t, "loss", r, e, x.want)
	}
}

// P5.2
func TestStrongest(t *testing.T) {
	flat := []api.ShearGate{gate(0, 5, 5), gate(10, 5, 5), gate(20, 5, 5)}
	late := []api.ShearGate{gate(0, 9, 9), gate(10, 0, 0), gate(11, 9, 9), gate(12, 0, 0)}
	wide := []api.ShearGate{gate(0, 0, 100), gate(10, 0, 0), gate(20, -1, 50)}
	rising := []api.ShearGate{gate(0, 0, 0), gate(10, 3, 3), gate(20, 9, 9)}
	for _, x := range []struct {
		gates    []api.ShearGate
		length   int
		loss     api.ShearChange
		gain     api.ShearChange
		possible int
	}{
		{p(), 1000, found(1, 2, 500, 650), found(0, 1, -200, -50), 650},
		{p(), 1500, found(0, 2, 600, 800), found(0, 1, -200, -50), 800},
		{p(), 1499, found(1, 2, 500, 650), found(0, 1, -200, -50), 650},
		{p(), 999, found(0, 1, 50, 200), found(0, 1, -200, -50), 200},
		{p(), 600, found(0, 1, 50, 200), found(0, 1, -200, -50), 200},
		{p(), 500, found(0, 1, 50, 200), found(0, 1, -200, -50), 200},
		{p(), 50000, found(0, 2, 600, 800), found(0, 1, -200, -50), 800},
		{flat, 20, found(0, 1, 0, 0), found(0, 1, 0, 0), 0},
		{late, 10, found(0, 1, 9, 9), found(1, 2, 9, 9), 9},
		{late, 1, found(2, 3, 9, 9), found(1, 2, 9, 9), 9},
		{late, 2, found(2, 3, 9, 9), found(1, 2, 9, 9), 9},
		{wide, 20, found(0, 1, 0, 100), found(1, 2, -1, 50), 101},
		{wide, 10, found(0, 1, 0, 100), found(1, 2, -1, 50), 100},
		{rising, 10, found(0, 1, -3, -3), found(1, 2, 6, 6), -3},
		{rising, 20, found(0, 1, -3, -3), found(0, 2, 9, 9), -3},
	} {
		if loss, e := shear.StrongestLoss(x.gates, x.length); e != api.OK || loss != x.loss {
			t.Error("loss", x, loss, e)
		}
		if gain, e := shear.StrongestGain(x.gates, x.length); e != api.OK || gain != x.gain {
			t.Error("gain", x, gain, e)
		}
		if possible, e := shear.PossibleLoss(x.gates, x.length); e != api.OK || possible != x.possible {
			t.Error("possible", x, possible, e)
		}
	}
}

// P5.2
func TestStrongestErrors(t *testing.T) {
	check := func(l []api.ShearGate, length int, want api.Errno) {
		t.Helper()
		answer, e := shear.StrongestLoss(l, length)
		expectOnly(t, "loss", answer, e, want)
		answer, e = shear.StrongestGain(l, length)
		expectOnly(t, "gain", answer, e, want)
		possible, e := shear.PossibleLoss(l, length)
		expectOnly(t, "possible", possible, e, want)
	}
	for _, length := range beyond(0, 50000) {
		check(p(), length, api.ErrRange)
		check(nil, length, api.ErrRange)
	}
	check(nil, 0, api.ErrNone)
	check([]api.ShearGate{}, 50000, api.ErrNone)
	check(p()[:1], 50000, api.ErrNone)
	check(p(), 0, api.ErrNone)
	check(p(), 499, api.ErrNone)
	check([]api.ShearGate{gate(0, 1, 1), gate(1, 0, 0)}, 0, api.ErrNone)
}

// allPairs are the losses of all two gates within a length, by all pairs of indexes.
func allPairs(l []api.ShearGate, length int) []api.ShearChange {
	var all []api.ShearChange
	for i, a := range l {
		for k, b := range l {
			if i < k && max(a.At-b.At, b.At-a.At) <= length {
				all = append(all, found(i, k, a.Wind.Lo-b.Wind.Hi, a.Wind.Hi-b.Wind.Lo))
			}
		}
	}
	return all
}

// firstBy sorts; the sort keeps the order of equal ones.
func firstBy(all []api.ShearChange, numberOf func(api.ShearChange) int) api.ShearChange {
	sorted := slices.Clone(all)
	slices.SortStableFunc(sorted, func(a, b api.ShearChange) int { return numberOf(b) - numberOf(a) })
	return sorted[0]
}

// P5.2
func TestStrongestByItsDefinition(t *testing.T) {
	d := draws{52}
	count := 0
	for range 2000 {
		l := d.profile(d.from(0, 20), 30, d.from(0, 12), d.from(0, 12))
		length := d.from(0, 200)
		all := allPairs(l, length)
		loss, e := shear.StrongestLoss(l, length)
		if len(all) == 0 {
			expectOnly(t, "loss", loss, e, api.ErrNone)
			continue
		}
		count++
		if want := firstBy(all, func(x api.ShearChange) int { return x.Change.Lo }); e != api.OK || loss != want {
			t.Fatal(l, length, loss, e, want)
		}
		least := firstBy(all, func(x api.ShearChange) int { return -x.Change.Hi })
		wantGain := found(least.From, least.To, -least.Change.Hi, -least.Change.Lo)
		if gain, e := shear.StrongestGain(l, length); e != api.OK || gain != wantGain {
			t.Fatal(l, length, gain, e, wantGain)
		}
		most := firstBy(all, func(x api.ShearChange) int { return x.Change.Hi })
		if possible, e := shear.PossibleLoss(l, length); e != api.OK || possible != most.Change.Hi {
			t.Fatal(l, length, possible, e, most)
		}
		if between, e := shear.LossBetween(l, most.From, most.To); e != api.OK || between != most.Change {
			t.Fatal(l, between, e, most)
		}
	}
	if count < 1000 {
		t.Error("too few pairs", count)
	}
}

// P5.7
func TestStrongestLossIsCertified(t *testing.T) {
	d := draws{57}
	count := 0
	for range 500 {
		l := d.profile(d.from(2, 9), 30, 40, 30)
		length := d.from(0, 150)
		strongest, e := shear.StrongestLoss(l, length)
		if e == api.ErrNone {
			continue
		}
		count++
		possible, _ := shear.PossibleLoss(l, length)
		for n := range 40 {
			winds := make([]int, len(l))
			for i, x := range l {
				winds[i] = d.from(x.Wind.Lo, x.Wind.Hi)
				if n < 8 { // the ends are true headwinds, too
					winds[i] = []int{x.Wind.Lo, x.Wind.Hi}[n>>min(i, 2)&1]
				}
			}
			best := math.MinInt
			for _, pair := range allPairs(l, length) {
				best = max(best, winds[pair.From]-winds[pair.To])
			}
			if winds[strongest.From]-winds[strongest.To] < strongest.Change.Lo || best < strongest.Change.Lo || best > possible {
				t.Fatal(l, winds, length, strongest, possible)
			}
		}
		// The possible loss is that of the ends of two gates.
		if !slices.ContainsFunc(allPairs(l, length), func(x api.ShearChange) bool { return x.Change.Hi == possible }) {
			t.Fatal(l, possible)
		}
		wider := slices.Clone(l)
		for i := range wider {
			wider[i].Wind.Lo -= d.from(0, 3)
			wider[i].Wind.Hi += d.from(0, 3)
		}
		if weaker, e := shear.StrongestLoss(wider, length); e != api.OK || weaker.Change.Lo > strongest.Change.Lo {
			t.Fatal(l, wider, strongest, weaker, e)
		}
		if more, e := shear.PossibleLoss(wider, length); e != api.OK || more < possible {
			t.Fatal(l, wider, possible, more, e)
		}
	}
	if count < 300 {
		t.Error("too few pairs", count)
	}
}

// P5.2
func TestRampsIn(t *testing.T) {
	steps := []api.ShearGate{gate(0, 9, 9), gate(1, 8, 8), gate(2, 8, 8), gate(3, 6, 6), gate(4, 3, 4), gate(5, 7, 7), gate(6, 5, 5)}
	for _, x := range []struct {
		gates []api.ShearGate
		limit int
		want  []api.Range
	}{
		{p(), 50, []api.Range{ends(0, 2)}},
		{p(), 51, []api.Range{ends(1, 2)}},
		{p(), 1, []api.Range{ends(0, 2)}},
		{p(), 500, []api.Range{ends(1, 2)}},
		{p(), 501, nil},
		{p(), 20000, nil},
		{nil, 1, nil},
		{p()[:1], 1, nil},
		{steps, 1, []api.Range{ends(0, 1), ends(2, 4), ends(5, 6)}},
		{steps, 2, []api.Range{ends(2, 4), ends(5, 6)}},
		{steps, 3, nil},
		{[]api.ShearGate{gate(0, 10000, 10000), gate(1, -10000, -10000)}, 20000, []api.Range{ends(0, 1)}},
		{[]api.ShearGate{gate(0, 3, 9), gate(1, 0, 4)}, 1, nil},
		{[]api.ShearGate{gate(0, 5, 9), gate(1, 0, 4)}, 1, []api.Range{ends(0, 1)}},
	} {
		if ramps, e := shear.RampsIn(x.gates, x.limit); e != api.OK || !same(ramps, x.want) {
			t.Error(x, ramps, e)
		}
	}
	for _, limit := range beyond(1, 20000) {
		ramps, e := shear.RampsIn(p(), limit)
		expectOnly(t, "ramps", ramps, e, api.ErrRange)
	}
}

// isRamp looks at all steps of a range.
func isRamp(l []api.ShearGate, r api.Range, limit int) bool {
	if r.Lo < 0 || r.Hi >= len(l) {
		return false
	}
	for i := r.Lo; i < r.Hi; i++ {
		if l[i].Wind.Lo-l[i+1].Wind.Hi < limit {
			return false
		}
	}
	return true
}

// P5.2
func TestRampsByTheirDefinition(t *testing.T) {
	d := draws{522}
	count := 0
	for range 2000 {
		l := d.profile(d.from(0, 20), 9, 6, 2)
		limit := d.from(1, 5)
		var want []api.Range
		for from := range l {
			for to := from + 1; to < len(l); to++ {
				r := ends(from, to)
				if isRamp(l, r, limit) && !isRamp(l, ends(from-1, to), limit) && !isRamp(l, ends(from, to+1), limit) {
					want = append(want, r)
				}
			}
		}
		count += len(want)
		if ramps, e := shear.RampsIn(l, limit); e != api.OK || !same(ramps, want) {
			t.Fatal(l, limit, ramps, e, want)
		}
	}
	if count < 2000 {
		t.Error("too few ramps", count)
	}
}

// P5.3
func TestBlindIn(t *testing.T) {
	for _, x := range []struct {
		gates []api.ShearGate
		span  api.Range
		gap   int
		want  []api.Range
	}{
		{p(), ends(0, 2000), 400, []api.Range{ends(901, 1099), ends(1901, 2000)}},
		{p(), ends(0, 2000), 499, []api.Range{ends(1000, 1000), ends(2000, 2000)}},
		{p(), ends(0, 2000), 500, nil},
		{p(), ends(1000, 1000), 499, []api.Range{ends(1000, 1000)}},
		{p(), ends(1000, 1000), 500, nil},
		{p(), ends(901, 1099), 400, []api.Range{ends(901, 1099)}},
		{p(), ends(900, 1100), 400, []api.Range{ends(901, 1099)}},
		{p(), ends(950, 960), 400, []api.Range{ends(950, 960)}},
		{p(), ends(950, 1950), 400, []api.Range{ends(950, 1099), ends(1901, 1950)}},
		{p(), ends(300, 1000), 0, []api.Range{ends(300, 499), ends(501, 1000)}},
		{p(), ends(0, 501), 0, []api.Range{ends(1, 499), ends(501, 501)}},
		{p(), ends(0, 0), 0, nil},
		{p(), ends(3000, 50000), 400, []api.Range{ends(3000, 50000)}},
		{p(), ends(0, 50000), 50000, nil},
		{p(), ends(0, 50000), 48499, []api.Range{ends(50000, 50000)}},
		{p(), ends(0, 50000), 48500, nil},
		{nil, ends(0, 50000), 50000, []api.Range{ends(0, 50000)}},
		{[]api.ShearGate{}, ends(7, 7), 0, []api.Range{ends(7, 7)}},
		{[]api.ShearGate{gate(5, 0, 0), gate(6, 0, 0)}, ends(0, 9), 0, []api.Range{ends(0, 4), ends(7, 9)}},
		{[]api.ShearGate{gate(50000, 0, 0)}, ends(0, 49999), 0, []api.Range{ends(0, 49999)}},
		{[]api.ShearGate{gate(40000, 0, 0), gate(50000, 0, 0)}, ends(0, 9), 0, []api.Range{ends(0, 9)}},
	} {
		if blind, e := shear.BlindIn(x.gates, x.span, x.gap); e != api.OK || !same(blind, x.want) {
			t.Error(x, blind, e)
		}
	}
}

// P5.3
func TestBlindErrors(t *testing.T) {
	check := func(span api.Range, gap int, want api.Errno) {
		t.Helper()
		for _, l := range [][]api.ShearGate{nil, p()} {
			blind, e := shear.BlindIn(l, span, gap)
			expectOnly(t, "blind", blind, e, want)
		}
	}
	for _, span := range outside(0, 50000) {
		check(span, 0, api.ErrRange)
		check(span, -1, api.ErrRange)
	}
	for _, span := range reversed(0, 50000) {
		check(span, 0, api.ErrOrder)
		check(span, -1, api.ErrOrder)
	}
	for _, gap := range beyond(0, 50000) {
		check(ends(0, 50000), gap, api.ErrRange)
	}
}

func isSeen(l []api.ShearGate, at, gap int) bool {
	return slices.ContainsFunc(l, func(x api.ShearGate) bool { return max(x.At-at, at-x.At) <= gap })
}

// blindBy looks at each position.
func blindBy(l []api.ShearGate, span api.Range, gap int) []api.Range {
	var blind []api.Range
	wasSeen := true
	for at := span.Lo; at <= span.Hi; at++ {
		see := isSeen(l, at, gap)
		if !see && wasSeen {
			blind = append(blind, ends(at, at))
		} else if !see {
			blind[len(blind)-1].Hi = at
		}
		wasSeen = see
	}
	return blind
}

func isIn(at int, l []api.Range) bool {
	return slices.ContainsFunc(l, func(r api.Range) bool { return r.Lo <= at && at <= r.Hi })
}

// P5.3, P5.12
func TestBlindByItsDefinition(t *testing.T) {
	d := draws{512}
	count := 0
	for range 1500 {
		l := d.profile(d.from(0, 8), 30, 5, 5)
		span := d.ends(0, 200, 150)
		gap := d.from(0, 15)
		blind, e := shear.BlindIn(l, span, gap)
		if want := blindBy(l, span, gap); e != api.OK || !same(blind, want) {
			t.Fatal(l, span, gap, blind, e, want)
		}
		count += len(blind)
		greater, e := shear.BlindIn(l, span, gap+d.from(1, 5))
		if e != api.OK {
			t.Fatal(e)
		}
		further := slices.Clone(l)
		at := d.from(0, 250)
		if i, known := slices.BinarySearchFunc(l, at, func(x api.ShearGate, at int) int { return x.At - at }); !known {
			further = slices.Insert(further, i, gate(at, 0, 0))
		}
		seen, e := shear.BlindIn(further, span, gap)
		if e != api.OK {
			t.Fatal(e)
		}
		for at := span.Lo; at <= span.Hi; at++ {
			isBlind := isIn(at, blind)
			if isBlind == isSeen(l, at, gap) || !isBlind && (isIn(at, greater) || isIn(at, seen)) {
				t.Fatal(l, span, gap, at, blind, greater, seen)
			}
		}
	}
	if count < 1500 {
		t.Error("too few stretches", count)
	}
}

// R3, R4
func TestProfilesStay(t *testing.T) {
	l := p()
	for what, answer := range profileAnswers(l, false) {
		before, e := answer()
		expect(t, what, e, api.OK)
		again, _ := answer()
		if !reflect.DeepEqual(before, again) || !reflect.DeepEqual(l, p()) {
			t.Error(what, before, again, l)
		}
		if ranges, ok := again.([]api.Range); ok {
			clear(ranges)
		}
		if later, _ := answer(); !reflect.DeepEqual(before, later) {
			t.Error(what, before, later)
		}
	}
}
