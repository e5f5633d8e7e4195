package shear_test

import (
	"math"
	"reflect"
	"slices"
	"testing"

	"glidepath/api"
	"glidepath/shear"
)

type words = [api.ShearWords]int

func encoded(t *testing.T, x api.ShearTelegram) words {
	t.Helper()
	w, e := shear.Encoded(x)
	expect(t, "encoded", e, api.OK)
	return w
}

type badTelegram struct {
	telegram api.ShearTelegram
	want     api.Errno
}

func badTelegrams() []badTelegram {
	var bad []badTelegram
	add := func(l ...api.ShearTelegram) {
		for _, x := range l {
			bad = append(bad, badTelegram{x, api.ErrRange})
		}
	}
	for _, x := range beyond(0, 250) {
		add(telegram(x, 0, 0, 0), telegram(x, 62500, 2, 62500))
	}
	for _, x := range beyond(0, 62500) {
		add(telegram(9, x, 1, 520), telegram(9, 300, 1, x))
	}
	for _, x := range beyond(0, 2) {
		add(telegram(9, 300, x, 520))
	}
	add(telegram(math.MinInt, math.MaxInt, math.MinInt, math.MaxInt), telegram(-1, -1, -1, -1))
	return bad
}

// P5.5
func TestEncoded(t *testing.T) {
	for _, x := range []struct {
		telegram api.ShearTelegram
		want     words
	}{
		{telegram(9, 300, 1, 520), words{9, 1, 49, 1, 2, 18, 211}},
		{telegram(0, 0, 0, 0), words{}},
		{telegram(7, 0, 0, 0), words{7, 0, 0, 0, 0, 0, 250}},
		{telegram(0, 250, 0, 251), words{0, 0, 250, 0, 1, 0, 179}},
		{telegram(250, 62500, 2, 62500), words{250, 249, 1, 2, 249, 1, 179}},
		{telegram(0, 0, 2, 0), words{0, 0, 0, 2, 0, 0, 214}},
	} {
		if w, e := shear.Encoded(x.telegram); e != api.OK || w != x.want {
			t.Error(x, w, e)
		}
		if back, e := shear.Decoded(x.want); e != api.OK || back != x.telegram {
			t.Error(x, back, e)
		}
	}
	for _, x := range badTelegrams() {
		w, e := shear.Encoded(x.telegram)
		expectOnly(t, "encoded", w, e, x.want)
	}
}

// proven puts the last word for which the sum is a multiple.
func proven(w words) words {
	for last := range 251 {
		w[6] = last
		if (w[0]+2*w[1]+3*w[2]+4*w[3]+5*w[4]+6*w[5]+7*w[6])%251 == 0 {
			return w
		}
	}
	return words{-1}
}

// P5.5
func TestDecodedErrors(t *testing.T) {
	check := func(w words, want api.Errno) {
		t.Helper()
		x, e := shear.Decoded(w)
		expectOnly(t, "decoded", x, e, want)
	}
	good := words{9, 1, 49, 1, 2, 18, 211}
	for i := range good {
		for _, x := range append(beyond(0, 250), good[i]+251, good[i]-251) {
			w := good
			w[i] = x
			check(w, api.ErrRange)
		}
	}
	check(words{0, 0, 0, 0, 0, 0, 1}, api.ErrProof)
	check(words{0, 0, 0, 0, 0, 0, 250}, api.ErrProof)
	check(words{1}, api.ErrProof)
	check(words{9, 1, 49, 1, 2, 18, 210}, api.ErrProof)
	check(words{9, 1, 49, 1, 2, 18, 0}, api.ErrProof)
	check(words{9, 250, 49, 3, 250, 18, 210}, api.ErrProof)
	check(proven(words{0, 249, 2}), api.ErrRange)
	check(proven(words{0, 250, 0}), api.ErrRange)
	check(proven(words{0, 250, 250}), api.ErrRange)
	check(proven(words{0, 0, 0, 0, 249, 2}), api.ErrRange)
	check(proven(words{0, 0, 0, 0, 250, 250}), api.ErrRange)
	check(proven(words{0, 0, 0, 3}), api.ErrRange)
	check(proven(words{0, 0, 0, 250}), api.ErrRange)
	if x, e := shear.Decoded(proven(words{250, 249, 1, 2, 249, 1})); e != api.OK || x != telegram(250, 62500, 2, 62500) {
		t.Error(x, e)
	}
}

// P5.5, P5.11
func TestTelegramsAreProven(t *testing.T) {
	d := draws{511}
	for range 60 {
		x := d.telegram()
		w := encoded(t, x)
		if w != proven(words{x.Runway, x.Number / 251, x.Number % 251, x.Kind, x.Value / 251, x.Value % 251}) {
			t.Fatal(x, w)
		}
		if back, e := shear.Decoded(w); e != api.OK || back != x {
			t.Fatal(x, w, back, e)
		}
		for i := range w {
			for word := -3; word < 260; word++ {
				changed := w
				changed[i] = word
				back, e := shear.Decoded(changed)
				switch {
				case word < 0 || word > 250:
					expectOnly(t, "changed", back, e, api.ErrRange)
				case word != w[i]:
					expectOnly(t, "changed", back, e, api.ErrProof)
				}
			}
			for k := range i {
				exchanged := w
				exchanged[i], exchanged[k] = w[k], w[i]
				if back, e := shear.Decoded(exchanged); w[i] != w[k] {
					expectOnly(t, "exchanged", back, e, api.ErrProof)
				}
			}
		}
	}
}

// P5.5
func TestDelivered(t *testing.T) {
	first, again, later := telegram(9, 300, 1, 520), telegram(9, 300, 0, 7), telegram(9, 299, 2, 0)
	other := telegram(8, 300, 1, 520)
	wrong := encoded(t, again)
	wrong[6] = (wrong[6] + 1) % 251
	w := func(l ...api.ShearTelegram) []words {
		var all []words
		for _, x := range l {
			all = append(all, encoded(t, x))
		}
		return all
	}
	for _, x := range []struct {
		words []words
		want  []api.ShearTelegram
	}{
		{nil, nil},
		{[]words{}, nil},
		{w(first), []api.ShearTelegram{first}},
		{w(first, again), []api.ShearTelegram{first}},
		{w(again, first), []api.ShearTelegram{again}},
		{w(first, later, other, again), []api.ShearTelegram{first, later, other}},
		{w(other, later, again, first, other), []api.ShearTelegram{other, later, again}},
		{append([]words{wrong}, w(first)...), []api.ShearTelegram{first}},
		{append(w(later), wrong), []api.ShearTelegram{later}},
		{[]words{wrong, {math.MinInt}, {math.MaxInt, math.MaxInt, math.MaxInt}, proven(words{0, 250, 250})}, nil},
		{[]words{{}, {}}, []api.ShearTelegram{{}}},
	} {
		if l, e := shear.Delivered(x.words); e != api.OK || !same(l, x.want) {
			t.Error(x, l, e)
		}
	}
	if l, e := shear.Delivered(slices.Repeat(w(first), 40)); e != api.OK || !same(l, []api.ShearTelegram{first}) {
		t.Error(l, e)
	}
	for _, l := range [][]words{make([]words, 41), slices.Repeat([]words{wrong}, 41)} {
		telegrams, e := shear.Delivered(l)
		expectOnly(t, "delivered", telegrams, e, api.ErrLarge)
	}
}

func numbered(t *testing.T, runway int, numbers ...int) []words {
	t.Helper()
	var l []words
	for i, x := range numbers {
		l = append(l, encoded(t, telegram(runway, x, i%3, i)))
	}
	return l
}

// P5.5
func TestLostOf(t *testing.T) {
	wrong := numbered(t, 9, 6)[0]
	wrong[0] = 10
	mixed := slices.Concat(numbered(t, 9, 8, 3, 5, 3), numbered(t, 7, 4, 6, 62500), []words{wrong})
	hundred := make([]int, 100)
	for i := range hundred {
		hundred[i] = 62400 + i
	}
	for _, x := range []struct {
		words  []words
		runway int
		want   []int
	}{
		{nil, 0, nil},
		{nil, 250, nil},
		{mixed, 9, []int{4, 6, 7}},
		{mixed, 8, nil},
		{mixed, 10, nil},
		{mixed, 0, nil},
		{numbered(t, 9, 5), 9, nil},
		{numbered(t, 9, 5, 5), 9, nil},
		{numbered(t, 9, 6, 5), 9, nil},
		{numbered(t, 9, 7, 5), 9, []int{6}},
		{numbered(t, 0, 0, 3), 0, []int{1, 2}},
		{numbered(t, 250, 62500, 62498, 62496), 250, []int{62497, 62499}},
		{numbered(t, 9, 62399, 62500), 9, hundred},
		{numbered(t, 9, 62398, 62500, 62399), 9, hundred},
	} {
		if lost, e := shear.LostOf(x.words, x.runway); e != api.OK || !same(lost, x.want) {
			t.Error(x, lost, e)
		}
	}
	check := func(l []words, runway int, want api.Errno) {
		t.Helper()
		lost, e := shear.LostOf(l, runway)
		expectOnly(t, "lost", lost, e, want)
	}
	full := numbered(t, 9, 62398, 62500)
	check(full, 9, api.ErrFull)
	check(numbered(t, 9, 0, 62500), 9, api.ErrFull)
	if lost, e := shear.LostOf(numbered(t, 9, 0, 51, 102, 103, 104), 9); e != api.OK || len(lost) != 100 {
		t.Error(lost, e)
	}
	check(numbered(t, 9, 0, 51, 103), 9, api.ErrFull)
	if lost, e := shear.LostOf(full, 8); e != api.OK || len(lost) != 0 {
		t.Error(lost, e)
	}
	for _, runway := range beyond(0, 250) {
		check(full, runway, api.ErrRange)
		check(nil, runway, api.ErrRange)
		check(make([]words, 41), runway, api.ErrLarge)
	}
	check(slices.Repeat(full, 21), 9, api.ErrLarge)
	check(slices.Repeat(full, 20), 9, api.ErrFull)
}

// P5.5
func TestLostByTheirDefinition(t *testing.T) {
	d := draws{55}
	count := 0
	for range 500 {
		var l []words
		known := map[int]bool{}
		least, most := math.MaxInt, math.MinInt
		for range d.from(0, 40) {
			x := telegram(d.from(3, 5), d.from(100, 180), d.from(0, 2), d.from(0, 62500))
			w := encoded(t, x)
			if d.from(0, 3) == 0 {
				w[d.from(0, 6)] = 251
			} else if x.Runway == 4 {
				known[x.Number] = true
				least, most = min(least, x.Number), max(most, x.Number)
			}
			l = append(l, w)
		}
		var want []int
		for x := range 300 {
			if least < x && x < most && !known[x] {
				want = append(want, x)
			}
		}
		count += len(want)
		if lost, e := shear.LostOf(l, 4); e != api.OK || !same(lost, want) {
			t.Fatal(l, lost, e, want)
		}
	}
	if count < 5000 {
		t.Error("too few lost", count)
	}
}

// R3, R4
func TestTelegramsStay(t *testing.T) {
	make := func() []words { return slices.Concat(numbered(t, 9, 8, 3, 5), []words{{1}}) }
	l := make()
	before, e := shear.Delivered(l)
	expect(t, "delivered", e, api.OK)
	lost, e := shear.LostOf(l, 9)
	expect(t, "lost", e, api.OK)
	if !reflect.DeepEqual(l, make()) || !same(lost, []int{4, 6, 7}) {
		t.Error(l, lost)
	}
	clear(lost)
	changed, _ := shear.Delivered(l)
	clear(changed)
	if again, _ := shear.Delivered(l); !reflect.DeepEqual(before, again) || !reflect.DeepEqual(l, make()) {
		t.Error(before, again)
	}
	if again, _ := shear.LostOf(l, 9); !same(again, []int{4, 6, 7}) {
		t.Error(again)
	}
}
