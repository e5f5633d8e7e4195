package tower_test

import (
	"math/big"
	"slices"
	"strconv"
	"strings"
	"testing"

	"glidepath/api"
	"glidepath/tower"
)

// example is the journal of the log of the examples.
const example = "1 eve lidar l1 324216\n" +
	"5 con scan l1 r1 0 1 0 0 900 1000;0 1 0 0 0;0 0 1 0 0 115068\n" +
	"6 con scan l1 r1 1000 1 0 0 200 300;0 1 0 0 0;0 0 1 0 0 958222\n" +
	"10 con assess r1 781224\n" +
	"11 con arrival r1 aa1 0 100 900 1 376831\n" +
	"12 con ack r1 1 917254\n" +
	"13 con release aa1 100 200529\n"

// sumOf sums without a remainder until the end.
func sumOf(s string, after int) int {
	sum := big.NewInt(int64(after))
	for _, c := range []byte(s) {
		sum.Mul(sum, big.NewInt(229))
		sum.Add(sum, big.NewInt(int64(c)+1))
	}
	return int(sum.Mod(sum, big.NewInt(999959)).Int64())
}

// P10.6, example 9
func TestSumOf(t *testing.T) {
	for _, c := range []struct {
		s           string
		after, want int
	}{
		{"ab", 0, 22541}, {"a", 0, 98}, {"", 0, 0}, {"", 999958, 999958}, {"\x00", 0, 1}, {"\xff", 0, 256}, {"\x00\x00", 0, 230}, {"\x00", 1, 230}, {"b", 98, 22541},
	} {
		if sum, e := tower.SumOf(c.s, c.after); sum != c.want || e != api.OK {
			t.Errorf("%q after %d: %d, error %d, want %d", c.s, c.after, sum, e, c.want)
		}
	}
	d := draws{1}
	for range 300 {
		s := make([]byte, d.from(0, 100))
		for i := range s {
			s[i] = byte(d.from(0, 255))
		}
		after := d.from(0, 999958)
		if sum, e := tower.SumOf(string(s), after); sum != sumOf(string(s), after) || e != api.OK {
			t.Errorf("%q after %d: %d, error %d", s, after, sum, e)
		}
	}
	for _, after := range beyond(0, 999958) {
		for _, s := range []string{"", "ab"} {
			sum, e := tower.SumOf(s, after)
			expectOnly(t, "SumOf", sum, e, api.ErrRange)
		}
	}
}

// P10.6
func TestJournal(t *testing.T) {
	for _, c := range []struct {
		log  []api.TowerEntry
		want string
	}{
		{nil, ""}, {l(), example}, {l()[:1], "1 eve lidar l1 324216\n"},
		{entries("0 gus note "), "0 gus note  " + strconv.Itoa(sumOf("0 gus note ", 0)) + "\n"},
		{entries("1000000000000 gus note  5 "), "1000000000000 gus note  5  " + strconv.Itoa(sumOf("1000000000000 gus note  5 ", 0)) + "\n"},
	} {
		if s := journal(t, n(), c.log); s != c.want {
			t.Errorf("%v: %q, want %q", c.log, s, c.want)
		}
	}
}

// P10.6
func TestRecovered(t *testing.T) {
	long := full()
	for i := range long {
		long[i].At, long[i].Text = 1000000000000, "note "+strings.Repeat("~", 395)
	}
	for _, log := range [][]api.TowerEntry{
		nil, l(), full(), long, entries("0 gus note "), entries("0 gus note   ", "0 gus note 5", "0 gus note 5 5"), entries("1000000000000 ida note x"),
	} {
		s := journal(t, n(), log)
		got, length, e := tower.Recovered(n(), s)
		if !same(got, log) || length != len(s) || e != api.OK {
			t.Errorf("%q: %v, %d, error %d", s, got, length, e)
		}
	}
	busy := journal(t, three(), busy())
	got, length, e := tower.Recovered(three(), busy)
	if journal(t, three(), got) != busy || length != len(busy) || e != api.OK {
		t.Errorf("%v, %d, error %d", got, length, e)
	}
	for _, s := range []string{strings.Repeat("x", 60001), example + strings.Repeat(" ", 60001-len(example)), strings.Repeat("\n", 100000)} {
		got, length, e := tower.Recovered(n(), s)
		if expectOnly(t, "Recovered", got, e, api.ErrLarge); length != 0 {
			t.Errorf("%d bytes together with an error", length)
		}
	}
	for _, s := range []string{strings.Repeat("x", 60000), strings.Repeat("\n", 60000), example + strings.Repeat(" ", 60000-len(example)), example + strings.Repeat("\n", 60000-len(example))} {
		_, length, e := tower.Recovered(n(), s)
		if want := len(s) - len(strings.TrimPrefix(s, example)); length != want || e != api.OK {
			t.Errorf("%.20q: %d, error %d, want %d", s, length, e, want)
		}
	}
}

// P10.13
func TestCut(t *testing.T) {
	for _, c := range []struct {
		net api.TowerNet
		log []api.TowerEntry
	}{{n(), l()}, {three(), busy()}, {n(), entries("0 gus note ", "0 gus note  7 ", "0 gus note 7", "3 ida note 12 12")}} {
		s := journal(t, c.net, c.log)
		for cut := range len(s) + 1 {
			count := strings.Count(s[:cut], "\n")
			got, length, e := tower.Recovered(c.net, s[:cut])
			if !same(got, c.log[:count]) || length != 1+strings.LastIndexByte(s[:cut], '\n') || e != api.OK {
				t.Fatalf("%q: %v, %d, error %d", s[:cut], got, length, e)
			}
			if cut == length && !alike(stateOf(t, c.net, got), stateOf(t, c.net, c.log[:count])) {
				t.Fatalf("%q: another state", s[:cut])
			}
		}
	}
}

// P10.6: a journal goes on no longer than it is one.
func TestSpoiledJournal(t *testing.T) {
	lines := strings.SplitAfter(example, "\n")
	for i := range len(example) {
		for _, c := range []byte{0, ' ', '\n', '0', '9', 'a', example[i] + 1, example[i] ^ 128} {
			if c == example[i] {
				continue
			}
			s := example[:i] + string([]byte{c}) + example[i+1:]
			count := strings.Count(example[:i], "\n")
			got, length, e := tower.Recovered(n(), s)
			if !same(got, l()[:count]) || length != len(strings.Join(lines[:count], "")) || e != api.OK {
				t.Fatalf("%q: %v, %d, error %d", s, got, length, e)
			}
		}
	}
	for _, c := range []struct {
		s     string
		count int
	}{
		{"\n" + example, 0}, {" " + example, 0}, {"0" + example, 0}, {"+" + example, 0}, {"-" + example, 0}, {example + "\n", 7}, {example + "x\n", 7}, {example + example, 7},
		{strings.ReplaceAll(example, "\n", "\r\n"), 0}, {strings.ReplaceAll(example, "\n", " \n"), 0}, {strings.Join(lines[1:], ""), 0},
		{lines[0] + lines[0], 1}, {lines[0] + lines[2], 1}, {lines[0] + lines[1] + lines[3], 2},
		{"1 eve lidar l1 0324216\n", 0}, {"1 eve lidar l1 +324216\n", 0}, {"1 eve lidar l1 1324175\n", 0}, {"1 eve lidar l1  324216\n", 0}, {"1 eve lidar l1 \n", 0}, {"1 eve lidar l1\n", 0}, {"1 eve\n", 0}, {"1\n", 0}, {"", 0}, {"1 eve ", 0}, {"\n", 0}, {" \n", 0}, {"  \n", 0}, {"   \n", 0},
	} {
		got, length, e := tower.Recovered(n(), c.s)
		if !same(got, l()[:c.count]) || length != len(strings.Join(lines[:c.count], "")) || e != api.OK {
			t.Errorf("%q: %v, %d, error %d, want %d", c.s, got, length, e, c.count)
		}
	}
}

// lined returns the lines that entries would have, whatever they are.
func lined(l ...string) string {
	s, sum := "", 0
	for _, x := range l {
		sum = sumOf(x, sum)
		s += x + " " + strconv.Itoa(sum) + "\n"
	}
	return s
}

// P10.6: correct sums are not enough, the log must be valid.
func TestInvalidJournal(t *testing.T) {
	first := []string{"3 gus note x", "3 eve lidar l1"}
	for _, x := range []string{
		"2 gus note x", "3 nobody note x", "3 gus lidar l2", "3 eve lidar l1", "3 gus x", "3 gus note", "3 gus ", "3 gus", "3  note x", "03 gus note x", "-3 gus note x", "+3 gus note x", "1000000000001 gus note x", "10000000000000 gus note x", "18446744073709551619 gus note x", " gus note x", "x gus note x", "3 gus note \x1f", "3 gus note ä", "3 gus note " + strings.Repeat("x", 396), "3 con assess r1", "3 con release aa1 100", "",
	} {
		s := lined(append(slices.Clone(first), x, "3 gus note x")...)
		got, length, e := tower.Recovered(n(), s)
		if !same(got, entries(first...)) || length != len(lined(first...)) || e != api.OK {
			t.Errorf("%q: %v, %d, error %d", s, got, length, e)
		}
	}
	many := slices.Repeat([]string{"7 gus note all is well"}, 61)
	got, length, e := tower.Recovered(n(), lined(many...))
	if !same(got, full()) || length != len(lined(many[:60]...)) || e != api.OK {
		t.Errorf("%v, %d, error %d", got, length, e)
	}
}

// P10.6
func TestMerged(t *testing.T) {
	for _, c := range []struct {
		a, b    []api.TowerEntry
		further []string
		refused []int
	}{
		{nil, nil, nil, nil}, {l(), nil, nil, nil}, {l(), l(), nil, nil}, {l(), l()[:3], nil, nil}, {full(), full(), nil, nil}, {full(), full()[:59], nil, nil},
		{after("20 con note x"), after("20 con note y"), []string{"20 con note y"}, nil},
		{after("20 con note x"), after("19 con note y"), nil, []int{7}},
		{after("20 con note x"), after("19 con note y", "20 con note y", "20 con note x"), []string{"20 con note y", "20 con note x"}, []int{7}},
		// What rests upon an entry that is refused is refused, too; the rest is not.
		{after("20 con note x"), after("19 con arrival r1 bb2 0 120 900 1", "20 con release bb2 190", "21 con note y", "22 con free bb2", "23 con free aa1"), []string{"21 con note y", "23 con free aa1"}, []int{7, 8, 10}},
		{after("20 con free aa1"), after("20 dan free aa1", "21 con around aa1 300", "21 con free aa1"), []string{"21 con around aa1 300", "21 con free aa1"}, []int{7}},
		{after("20 ida close r1 snow"), after("20 con arrival r1 bb2 0 120 900 1", "20 con release bb2 190", "30 ida close r1 ice", "31 ida open r1", "32 dan ack r1 1"), []string{"20 con arrival r1 bb2 0 120 900 1", "31 ida open r1", "32 dan ack r1 1"}, []int{8, 9}},
		{entries("1 eve lidar l1"), entries("1 ida lidar l1", "1 eve lidar l2"), []string{"1 eve lidar l2"}, []int{0}},
		// Nothing in common, but the same texts.
		{entries("1 gus note x", "1 gus note y"), entries("1 gus note y", "1 gus note x"), []string{"1 gus note y", "1 gus note x"}, nil},
		{entries("2 gus note x"), entries("1 gus note x"), nil, []int{0}},
		// No more than fit.
		{full()[:58], append(full()[:57], entries("8 gus note 1", "8 gus note 2", "8 gus note 3")...), []string{"8 gus note 1", "8 gus note 2"}, []int{59}},
	} {
		merged, refused, e := tower.Merged(n(), c.a, c.b)
		if want := append(slices.Clone(c.a), entries(c.further...)...); !same(merged, want) || !same(refused, c.refused) || e != api.OK {
			t.Errorf("%v and %v: %v, %v, error %d, want %v, %v", c.a, c.b, merged, refused, e, want, c.refused)
		}
	}
}

// P10.14
func TestMergedBeginnings(t *testing.T) {
	for _, c := range []struct {
		net api.TowerNet
		log []api.TowerEntry
	}{{n(), l()}, {three(), busy()}, {n(), full()}} {
		for i := range len(c.log) + 1 {
			for _, pair := range [][2][]api.TowerEntry{{c.log, c.log[:i]}, {c.log[:i], c.log}} {
				merged, refused, e := tower.Merged(c.net, pair[0], pair[1])
				if !same(merged, c.log) || len(refused) > 0 || e != api.OK {
					t.Errorf("%d: %v, %v, error %d", i, merged, refused, e)
				}
			}
		}
	}
}

// R3: what is merged is new.
func TestMergedIsNew(t *testing.T) {
	a := append(make([]api.TowerEntry, 0, 20), l()...)
	b := after("14 con note x")
	merged, _, _ := tower.Merged(n(), a, b)
	spoil(merged)
	if !same(a, l()) || a[:8][7] != (api.TowerEntry{}) || !same(b, after("14 con note x")) {
		t.Errorf("%v and %v", a, b)
	}
	again, _, _ := tower.Merged(n(), a, a)
	spoil(again)
	if !same(a, l()) {
		t.Errorf("%v", a)
	}
}
