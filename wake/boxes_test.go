package wake_test

import (
	"math"
	"reflect"
	"slices"
	"testing"

	"glidepath/api"
	"glidepath/wake"
)

type vortices map[api.WakeVortex]bool

// vorticesIn are all vortices that lie in a box.
func vorticesIn(b api.WakeBox) vortices {
	l := vortices{}
	for y := b.Y.Lo; y <= b.Y.Hi; y++ {
		for z := b.Z.Lo; z <= b.Z.Hi; z++ {
			for strength := b.Strength.Lo; strength <= b.Strength.Hi; strength++ {
				l[vortex(y, z, strength)] = true
			}
		}
	}
	return l
}

// moved are all vortices to which some vortices lead in a tick.
func (l vortices) moved(d api.WakeDrift) vortices {
	next := vortices{}
	for v := range l {
		for side := d.Side.Lo; side <= d.Side.Hi; side++ {
			for sink := d.Sink.Lo; sink <= d.Sink.Hi; sink++ {
				for decay := d.Decay.Lo; decay <= d.Decay.Hi; decay++ {
					next[vortex(v.At.Y+side, max(0, v.At.Z-sink), max(0, v.Strength-decay))] = true
				}
			}
		}
	}
	return next
}

// box is the smallest one that has all of them.
func (l vortices) box() api.WakeBox {
	b := box(ends(math.MaxInt, math.MinInt), ends(math.MaxInt, math.MinInt), ends(math.MaxInt, math.MinInt))
	for v := range l {
		b.Y = ends(min(b.Y.Lo, v.At.Y), max(b.Y.Hi, v.At.Y))
		b.Z = ends(min(b.Z.Lo, v.At.Z), max(b.Z.Hi, v.At.Z))
		b.Strength = ends(min(b.Strength.Lo, v.Strength), max(b.Strength.Hi, v.Strength))
	}
	return b
}

// goodBoxes are valid ones with the ends of what is valid.
func goodBoxes() []api.WakeBox {
	return []api.WakeBox{
		{}, b(),
		box(ends(-1000000, 1000000), ends(0, 1000000), ends(0, 10000)),
		box(ends(-1000000, -1000000), ends(0, 0), ends(0, 0)),
		box(ends(1000000, 1000000), ends(1000000, 1000000), ends(10000, 10000)),
	}
}

func goodDrifts() []api.WakeDrift {
	return []api.WakeDrift{
		{}, d(),
		drift(ends(-100, 100), ends(0, 100), ends(0, 100)),
		drift(ends(-100, -100), ends(0, 0), ends(0, 0)),
		drift(ends(100, 100), ends(100, 100), ends(100, 100)),
	}
}

// P6.5
func TestCheckBox(t *testing.T) {
	for _, x := range goodBoxes() {
		expect(t, "a box", wake.CheckBox(x), api.OK)
	}
	for _, x := range badBoxes() {
		if e := wake.CheckBox(x.value); e != x.want {
			t.Errorf("%v: error %d, want %d", x.value, e, x.want)
		}
	}
}

// P6.5, example 7
func TestBoxAfterExamples(t *testing.T) {
	for _, c := range []struct {
		box   api.WakeBox
		drift api.WakeDrift
		ticks int
		want  api.WakeBox
	}{
		{b(), d(), 3, box(ends(-3, 5), ends(4, 9), ends(5, 10))},
		{b(), d(), 0, b()},
		{b(), d(), 5, box(ends(-5, 7), ends(0, 7), ends(3, 10))},
		{b(), d(), 6, box(ends(-6, 8), ends(0, 6), ends(2, 10))},
		{b(), d(), 12, box(ends(-12, 14), ends(0, 0), ends(0, 10))},
		{b(), d(), 1000, box(ends(-1000, 1002), ends(0, 0), ends(0, 10))},
		{b(), api.WakeDrift{}, 1000, b()},
		{b(), drift(ends(2, 2), ends(0, 0), ends(2, 2)), 5, box(ends(10, 12), ends(10, 12), ends(0, 0))},
		// A vortex on the ground stays there.
		{box(ends(0, 0), ends(0, 0), ends(5, 5)), drift(ends(0, 0), ends(3, 7), ends(0, 0)), 9, box(ends(0, 0), ends(0, 0), ends(5, 5))},
		// The result may be beyond what a box may be.
		{box(ends(-1000000, 1000000), ends(0, 1000000), ends(0, 10000)), drift(ends(-100, 100), ends(0, 100), ends(0, 100)), 1000,
			box(ends(-1100000, 1100000), ends(0, 1000000), ends(0, 10000))},
		{box(ends(1000000, 1000000), ends(1000000, 1000000), ends(10000, 10000)), drift(ends(100, 100), ends(100, 100), ends(9, 10)), 1000,
			box(ends(1100000, 1100000), ends(900000, 900000), ends(0, 1000))},
	} {
		if got, e := wake.BoxAfter(c.box, c.drift, c.ticks); got != c.want || e != api.OK {
			t.Errorf("%v, %v, %d: %v, %d, want %v", c.box, c.drift, c.ticks, got, e, c.want)
		}
	}
}

// P6.5: the box after some ticks is the smallest one that has all vortices to which paths lead.
func TestBoxAfterByDefinition(t *testing.T) {
	draw := &draws{72}
	for range 60 {
		x, y := draw.box(5, 6, 6, 2), draw.drift(2, 2)
		l := vorticesIn(x)
		for ticks := range 5 {
			got, e := wake.BoxAfter(x, y, ticks)
			if want := l.box(); got != want || e != api.OK {
				t.Fatalf("%v, %v, %d: %v, %d, want %v", x, y, ticks, got, e, want)
			}
			if all := vorticesIn(got); len(all) != len(l) {
				t.Fatalf("%v, %v, %d: %d vortices lie in the box, %d are reached", x, y, ticks, len(all), len(l))
			}
			l = l.moved(y)
		}
	}
}

// P6.12: each vortex of a path lies in the box after as many ticks; the box after a + b ticks is that after b ticks of the box after a.
func TestEveryPath(t *testing.T) {
	draw := &draws{73}
	for range 300 {
		x, y := draw.box(50, 90, 90, 9), draw.drift(5, 5)
		path := draw.path(x, y, draw.from(1, 30))
		for i, v := range path {
			got, e := wake.BoxAfter(x, y, i)
			if e != api.OK || v.At.Y < got.Y.Lo || v.At.Y > got.Y.Hi || v.At.Z < got.Z.Lo || v.At.Z > got.Z.Hi || v.Strength < got.Strength.Lo || v.Strength > got.Strength.Hi {
				t.Fatalf("%v, %v: %v is not in %v after %d, %d", x, y, v, got, i, e)
			}
		}
		if i, e := wake.CheckPath(x, y, path); i != 0 || e != api.OK {
			t.Fatalf("%v, %v: %v is not accepted: %d, %d", x, y, path, i, e)
		}
		a, b := draw.from(0, 40), draw.from(0, 40)
		first, e := wake.BoxAfter(x, y, a)
		expect(t, "BoxAfter", e, api.OK)
		second, e := wake.BoxAfter(first, y, b)
		expect(t, "BoxAfter", e, api.OK)
		if both, e := wake.BoxAfter(x, y, a+b); both != second || e != api.OK {
			t.Fatalf("%v, %v after %d and %d: %v, %d, want %v", x, y, a, b, second, e, both)
		}
	}
}

// P6.5, example 7, and P6.12: a path may stand still if the drift permits it.
func TestCheckPathExamples(t *testing.T) {
	start := vortex(1, 11, 9)
	still := drift(ends(-1, 1), ends(0, 1), ends(0, 1))
	for _, c := range []struct {
		drift api.WakeDrift
		path  []api.WakeVortex
		index int
		want  api.Errno
	}{
		{d(), []api.WakeVortex{start, vortex(2, 9, 9)}, 0, api.OK},
		{d(), []api.WakeVortex{start}, 0, api.OK},
		{d(), []api.WakeVortex{vortex(0, 10, 8)}, 0, api.OK},
		{d(), []api.WakeVortex{vortex(2, 12, 10)}, 0, api.OK},
		{d(), []api.WakeVortex{vortex(-1, 10, 8)}, 0, api.ErrProof},
		{d(), []api.WakeVortex{vortex(3, 10, 8)}, 0, api.ErrProof},
		{d(), []api.WakeVortex{vortex(0, 9, 8)}, 0, api.ErrProof},
		{d(), []api.WakeVortex{vortex(0, 13, 8)}, 0, api.ErrProof},
		{d(), []api.WakeVortex{vortex(0, 10, 7)}, 0, api.ErrProof},
		{d(), []api.WakeVortex{vortex(0, 10, 11), vortex(0, 10, 11)}, 0, api.ErrProof},
		{d(), []api.WakeVortex{start, vortex(0, 10, 8)}, 0, api.OK},
		{d(), []api.WakeVortex{start, vortex(-1, 10, 8)}, 1, api.ErrProof},
		{d(), []api.WakeVortex{start, vortex(3, 10, 8)}, 1, api.ErrProof},
		{d(), []api.WakeVortex{start, vortex(1, 11, 9)}, 1, api.ErrProof},
		{d(), []api.WakeVortex{start, vortex(1, 8, 9)}, 1, api.ErrProof},
		{d(), []api.WakeVortex{start, vortex(1, 10, 10)}, 1, api.ErrProof},
		{d(), []api.WakeVortex{start, vortex(1, 10, 7), vortex(1, 99, 9)}, 1, api.ErrProof},
		// A step is from the vortex before, not from the box.
		{d(), []api.WakeVortex{start, vortex(0, 9, 8), vortex(0, 8, 9)}, 2, api.ErrProof},
		{d(), []api.WakeVortex{start, vortex(0, 9, 8), vortex(-1, 7, 7), vortex(-2, 5, 6)}, 0, api.OK},
		{still, slices.Repeat([]api.WakeVortex{start}, 1001), 0, api.OK},
		{still, slices.Repeat([]api.WakeVortex{start}, 1002), 0, api.ErrLarge},
		{still, slices.Repeat([]api.WakeVortex{vortex(9, 9, 9)}, 1002), 0, api.ErrLarge},
		{still, append(slices.Repeat([]api.WakeVortex{start}, 1000), vortex(3, 11, 9)), 1000, api.ErrProof},
		{still, nil, 0, api.ErrShape},
		{still, []api.WakeVortex{}, 0, api.ErrShape},
		{still, []api.WakeVortex{start, vortex(math.MaxInt, math.MinInt, math.MaxInt), start}, 1, api.ErrProof},
		{still, []api.WakeVortex{vortex(math.MinInt, math.MaxInt, math.MinInt), start}, 0, api.ErrProof},
	} {
		if i, e := wake.CheckPath(b(), c.drift, c.path); i != c.index || e != c.want {
			t.Errorf("%v: %d, %d, want %d, %d", c.path, i, e, c.index, c.want)
		}
	}
	// On the ground, and without circulation, a vortex stays.
	ground := []api.WakeVortex{vortex(0, 1, 1), vortex(0, 0, 0), vortex(0, 0, 0)}
	if i, e := wake.CheckPath(box(ends(0, 0), ends(1, 1), ends(1, 1)), drift(ends(0, 0), ends(2, 3), ends(4, 5)), ground); i != 0 || e != api.OK {
		t.Errorf("%v: %d, %d", ground, i, e)
	}
}

// P6.5: each further vortex is one to which the one before leads in a tick.
func TestCheckPathByDefinition(t *testing.T) {
	draw := &draws{74}
	broken := 0
	for range 1500 {
		x, y := draw.box(3, 4, 4, 2), draw.drift(2, 1)
		path := draw.path(x, y, draw.from(1, 5))
		at := draw.from(0, len(path)-1)
		path[at].At.Y += draw.from(-1, 1)
		path[at].At.Z += draw.from(-1, 1)
		path[at].Strength += draw.from(-1, 1)
		index, want := 0, api.OK
		l := vorticesIn(x)
		for i, v := range path {
			if !l[v] {
				index, want = i, api.ErrProof
				broken++
				break
			}
			l = vortices{v: true}.moved(y)
		}
		if i, e := wake.CheckPath(x, y, path); i != index || e != want {
			t.Fatalf("%v, %v, %v: %d, %d, want %d, %d", x, y, path, i, e, index, want)
		}
	}
	if broken < 300 || broken > 1400 {
		t.Errorf("%d paths are broken", broken)
	}
}

// P6.5, edge case: two boxes that touch meet.
func TestMeetOf(t *testing.T) {
	for _, c := range []struct{ a, b, want api.WakeBox }{
		{b(), b(), b()},
		{b(), box(ends(2, 9), ends(12, 12), ends(0, 8)), box(ends(2, 2), ends(12, 12), ends(8, 8))},
		{b(), box(ends(-9, 0), ends(0, 10), ends(10, 10000)), box(ends(0, 0), ends(10, 10), ends(10, 10))},
		{b(), box(ends(-9, 9), ends(0, 99), ends(0, 99)), b()},
		{box(ends(-1000000, 1000000), ends(0, 1000000), ends(0, 10000)), b(), b()},
	} {
		if got, e := wake.MeetOf(c.a, c.b); got != c.want || e != api.OK {
			t.Errorf("%v, %v: %v, %d, want %v", c.a, c.b, got, e, c.want)
		}
		if got, e := wake.MeetOf(c.b, c.a); got != c.want || e != api.OK {
			t.Errorf("%v, %v: %v, %d, want %v", c.b, c.a, got, e, c.want)
		}
	}
	for _, x := range []api.WakeBox{
		box(ends(3, 9), ends(12, 12), ends(0, 8)), box(ends(-9, -1), ends(12, 12), ends(0, 8)),
		box(ends(2, 9), ends(13, 13), ends(0, 8)), box(ends(2, 9), ends(0, 9), ends(0, 8)),
		box(ends(2, 9), ends(12, 12), ends(0, 7)), box(ends(2, 9), ends(12, 12), ends(11, 12)),
	} {
		got, e := wake.MeetOf(b(), x)
		expectOnly(t, "MeetOf", got, e, api.ErrClash)
		got, e = wake.MeetOf(x, b())
		expectOnly(t, "MeetOf", got, e, api.ErrClash)
	}
	draw := &draws{75}
	apart := 0
	for range 500 {
		x, y := draw.box(4, 4, 4, 4), draw.box(4, 4, 4, 4)
		both := vorticesIn(x)
		others := vorticesIn(y)
		for v := range both {
			if !others[v] {
				delete(both, v)
			}
		}
		got, e := wake.MeetOf(x, y)
		if len(both) == 0 {
			apart++
			expectOnly(t, "MeetOf", got, e, api.ErrClash)
		} else if want := both.box(); got != want || e != api.OK {
			t.Fatalf("%v, %v: %v, %d, want %v", x, y, got, e, want)
		}
	}
	if apart < 50 || apart > 450 {
		t.Errorf("%d boxes are apart", apart)
	}
}

// P6.5: the errors of the box, the drift, the number of ticks and the path, in this order.
func TestBoxErrors(t *testing.T) {
	later := []api.WakeDrift{d(), drift(ends(1, 0), ends(0, 0), ends(0, 0)), drift(ends(101, 0), ends(0, 0), ends(0, 0))}
	for _, x := range badBoxes() {
		for _, y := range later {
			got, e := wake.BoxAfter(x.value, y, -1)
			expectOnly(t, "BoxAfter", got, e, x.want)
			i, e := wake.CheckPath(x.value, y, nil)
			expectOnly(t, "CheckPath", i, e, x.want)
		}
		got, e := wake.BoxAfter(x.value, d(), 1)
		expectOnly(t, "BoxAfter", got, e, x.want)
		for _, y := range []api.WakeBox{b(), box(ends(0, 0), ends(-1, 0), ends(0, 0)), box(ends(1, 0), ends(0, 0), ends(0, 0)), box(ends(9, 9), ends(0, 0), ends(0, 0))} {
			got, e := wake.MeetOf(x.value, y)
			expectOnly(t, "MeetOf", got, e, x.want)
		}
		got, e = wake.MeetOf(b(), x.value)
		expectOnly(t, "MeetOf", got, e, x.want)
	}
	for _, x := range badDrifts() {
		for _, ticks := range []int{1, -1} {
			got, e := wake.BoxAfter(b(), x.value, ticks)
			expectOnly(t, "BoxAfter", got, e, x.want)
		}
		for _, path := range [][]api.WakeVortex{nil, {vortex(9, 9, 9)}, make([]api.WakeVortex, 1002)} {
			i, e := wake.CheckPath(b(), x.value, path)
			expectOnly(t, "CheckPath", i, e, x.want)
		}
	}
	for _, ticks := range beyond(0, 1000) {
		got, e := wake.BoxAfter(b(), d(), ticks)
		expectOnly(t, "BoxAfter", got, e, api.ErrRange)
	}
	for _, x := range goodBoxes() {
		for _, y := range goodDrifts() {
			_, e := wake.BoxAfter(x, y, 1000)
			expect(t, "BoxAfter", e, api.OK)
			_, e = wake.CheckPath(x, y, []api.WakeVortex{vortex(x.Y.Lo, x.Z.Lo, x.Strength.Lo)})
			expect(t, "CheckPath", e, api.OK)
		}
		_, e := wake.MeetOf(x, goodBoxes()[2])
		expect(t, "MeetOf", e, api.OK)
	}
}

// R3
func TestPathMemory(t *testing.T) {
	path := []api.WakeVortex{vortex(1, 11, 9), vortex(2, 9, 9)}
	kept := slices.Clone(path)
	wake.CheckPath(b(), d(), path)
	if !reflect.DeepEqual(path, kept) {
		t.Errorf("%v was changed to %v", kept, path)
	}
}
