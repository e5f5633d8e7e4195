package spacing_test

import (
	"math"
	"reflect"
	"slices"
	"testing"

	"glidepath/api"
	"glidepath/spacing"
)

// capacity counts the arrivals of a mix second by second.
func capacity(r api.SpacingRule, mix []int, seconds int) int {
	count, next := 0, 0
	for second := 0; second <= seconds; second++ {
		if second == next {
			next += r.Seconds[mix[count%len(mix)]][mix[(count+1)%len(mix)]]
			count++
		}
	}
	return count
}

// P7.1
func TestCheckRule(t *testing.T) {
	draw := &draws{71}
	good := []api.SpacingRule{
		r(), {Seconds: [][]int{{0}}, Free: [][]int{{0}}}, {Seconds: [][]int{{600}}, Free: [][]int{{600}}}, {Seconds: [][]int{{600}}, Free: [][]int{{0}}},
	}
	for i := range 100 {
		good = append(good, draw.rule(1+i%4, []int{1, 600}[i%2]))
	}
	for _, x := range good {
		if i, e := spacing.CheckRule(x); i != 0 || e != api.OK {
			t.Errorf("%v: %d, %d", x, i, e)
		}
	}
	for _, x := range badRules() {
		if i, e := spacing.CheckRule(x.value); i != x.index || e != x.want {
			t.Errorf("%v: %d, %d, want %d, %d", x.value, i, e, x.index, x.want)
		}
	}
}

// P7.1
func TestSeparationOf(t *testing.T) {
	draw := &draws{72}
	for i := range 40 {
		x := draw.rule(1+i%4, 600)
		for leader := range x.Seconds {
			for follower := range x.Seconds {
				if got, e := spacing.SeparationOf(x, api.SpacingPair{Leader: leader, Follower: follower}); got != x.Seconds[leader][follower] || e != api.OK {
					t.Errorf("%v, %d, %d: %d, %d", x, leader, follower, got, e)
				}
				if got, e := spacing.SeparationOf(x, api.SpacingPair{Leader: leader, Follower: follower, IsFree: true}); got != x.Free[leader][follower] || e != api.OK {
					t.Errorf("%v, %d, %d, free: %d, %d", x, leader, follower, got, e)
				}
			}
		}
	}
	for _, x := range []struct {
		pair api.SpacingPair
		want int
	}{
		{api.SpacingPair{Leader: 0, Follower: 1}, 120}, {api.SpacingPair{Leader: 1, Follower: 0}, 60}, {api.SpacingPair{Leader: 0, Follower: 1, IsFree: true}, 80},
	} {
		if got, e := spacing.SeparationOf(r(), x.pair); got != x.want || e != api.OK {
			t.Errorf("%v: %d, %d, want %d", x.pair, got, e, x.want)
		}
	}
}

// P7.1
func TestSeparationOfErrors(t *testing.T) {
	for _, x := range badRules() {
		for _, pair := range []api.SpacingPair{{}, {Leader: -1, Follower: 9, IsFree: true}} {
			got, e := spacing.SeparationOf(x.value, pair)
			expectOnly(t, "rule", got, e, x.want)
		}
	}
	for _, x := range beyond(0, 1) {
		for _, pair := range []api.SpacingPair{{Leader: x}, {Follower: x}, {Leader: x, Follower: x, IsFree: true}, {Leader: 1, Follower: x, IsFree: true}, {Leader: x, Follower: 1}} {
			got, e := spacing.SeparationOf(r(), pair)
			expectOnly(t, "category", got, e, api.ErrMissing)
		}
	}
}

// P7.1, example 9
func TestCapacityOfExamples(t *testing.T) {
	for _, c := range []struct {
		mix     []int
		seconds int
		want    int
	}{
		{[]int{0, 1}, 300, 4}, {[]int{0, 1}, 299, 3}, {[]int{0, 1}, 180, 3}, {[]int{0, 1}, 179, 2}, {[]int{0, 1}, 120, 2}, {[]int{0, 1}, 119, 1}, {[]int{0, 1}, 0, 1},
		{[]int{1, 0}, 300, 4}, {[]int{1, 0}, 60, 2}, {[]int{1, 0}, 59, 1},
		// A mix of one category follows itself.
		{[]int{0}, 89, 1}, {[]int{0}, 90, 2}, {[]int{0}, 180, 3}, {[]int{1}, 7200, 121}, {[]int{1}, 7199, 120},
		// The first one follows the last one: 0, 90, 210, 270.
		{[]int{0, 0, 1}, 269, 3}, {[]int{0, 0, 1}, 270, 4},
		{slices.Repeat([]int{1}, 12), 7200, 121},
		// It counts from the one before alone, and corridors are not free.
		{[]int{1, 1, 0}, 120, 3},
	} {
		if got, e := spacing.CapacityOf(r(), c.mix, c.seconds); got != c.want || e != api.OK {
			t.Errorf("%v, %d: %d, %d, want %d", c.mix, c.seconds, got, e, c.want)
		}
	}
	// Short separations of others do not make the one from before longer: 0, 1, 2.
	x := api.SpacingRule{Seconds: [][]int{{600, 1, 600}, {1, 1, 1}, {1, 1, 1}}, Free: [][]int{{0, 0, 0}, {0, 0, 0}, {0, 0, 0}}}
	if got, e := spacing.CapacityOf(x, []int{0, 1, 2}, 2); got != 3 || e != api.OK {
		t.Errorf("%d, %d, want 3", got, e)
	}
	if got, e := spacing.CapacityOf(single(1).Rule, []int{0}, 7200); got != 7201 || e != api.OK {
		t.Errorf("%d, %d, want 7201", got, e)
	}
}

// P7.1, P7.13
func TestCapacityOf(t *testing.T) {
	draw := &draws{73}
	for i := range 300 {
		x := draw.rule(1+i%4, []int{3, 100, 600}[i%3])
		mix := make([]int, draw.from(1, 12))
		for j := range mix {
			mix[j] = draw.from(0, i%4)
		}
		isZero := false
		for j := range mix {
			isZero = isZero || x.Seconds[mix[j]][mix[(j+1)%len(mix)]] == 0
		}
		if isZero {
			got, e := spacing.CapacityOf(x, mix, draw.from(0, 7200))
			expectOnly(t, "zero", got, e, api.ErrZero)
			continue
		}
		seconds := draw.from(0, 7200)
		got, e := spacing.CapacityOf(x, mix, seconds)
		if got != capacity(x, mix, seconds) || e != api.OK {
			t.Fatalf("%v, %v, %d: %d, %d", x, mix, seconds, got, e)
		}
		if more, e := spacing.CapacityOf(x, mix, draw.from(seconds, 7200)); more < got || e != api.OK {
			t.Fatalf("%v, %v, %d: %d in more seconds, %d", x, mix, seconds, more, e)
		}
		y := api.SpacingRule{Seconds: copiedRows(x.Seconds), Free: x.Free}
		for _, row := range y.Seconds {
			for j := range row {
				row[j] = draw.from(row[j], 600)
			}
		}
		if fewer, e := spacing.CapacityOf(y, mix, seconds); fewer > got || e != api.OK {
			t.Fatalf("%v, %v, %d: %d with greater separations, %d", x, mix, seconds, fewer, e)
		}
	}
}

// P7.1
func TestCapacityOfErrors(t *testing.T) {
	for _, x := range badRules() {
		for _, mix := range [][]int{nil, {0}, {9}, make([]int, 13)} {
			got, e := spacing.CapacityOf(x.value, mix, -1)
			expectOnly(t, "rule", got, e, x.want)
		}
	}
	zero := api.SpacingRule{Seconds: [][]int{{0, 1}, {1, 1}}, Free: [][]int{{0, 0}, {0, 0}}}
	for _, mix := range [][]int{nil, {}} {
		got, e := spacing.CapacityOf(zero, mix, -1)
		expectOnly(t, "shape", got, e, api.ErrShape)
	}
	for _, mix := range [][]int{make([]int, 13), slices.Repeat([]int{9}, 13), make([]int, 100000)} {
		got, e := spacing.CapacityOf(zero, mix, -1)
		expectOnly(t, "large", got, e, api.ErrLarge)
	}
	for _, x := range beyond(0, 1) {
		for _, mix := range [][]int{{x}, {0, x}, append(make([]int, 11), x), {x, 1}} {
			got, e := spacing.CapacityOf(zero, mix, -1)
			expectOnly(t, "category", got, e, api.ErrMissing)
		}
	}
	for _, x := range beyond(0, 7200) {
		for _, mix := range [][]int{{0}, {1}, {1, 0, 0}} {
			got, e := spacing.CapacityOf(zero, mix, x)
			expectOnly(t, "seconds", got, e, api.ErrRange)
		}
	}
	// The first one after the last one, too.
	for _, mix := range [][]int{{0}, {0, 0}, {1, 0, 0}, {0, 1, 0}, {0, 0, 1}, {0, 1, 1, 0}} {
		for _, seconds := range []int{0, 7200} {
			got, e := spacing.CapacityOf(zero, mix, seconds)
			expectOnly(t, "zero", got, e, api.ErrZero)
		}
	}
	// Separations that no neighbours have may be 0, and so may those of Free.
	for _, mix := range [][]int{{1}, {0, 1}, {1, 0}, {1, 0, 1}} {
		if got, e := spacing.CapacityOf(zero, mix, 10); got != 11 || e != api.OK {
			t.Errorf("%v: %d, %d, want 11", mix, got, e)
		}
	}
}

// R2: numbers without a size, R3
func TestRuleMemory(t *testing.T) {
	x := r()
	spacing.CheckRule(x)
	mix := []int{0, 1}
	spacing.CapacityOf(x, mix, 100)
	spacing.SeparationOf(x, api.SpacingPair{IsFree: true})
	spacing.SeparationOf(x, api.SpacingPair{Leader: math.MinInt, Follower: math.MaxInt})
	if !reflect.DeepEqual(x, r()) || !same(mix, []int{0, 1}) {
		t.Errorf("%v, %v", x, mix)
	}
}
