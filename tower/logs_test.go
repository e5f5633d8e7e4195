package tower_test

import (
	"slices"
	"strings"
	"testing"

	"glidepath/api"
	"glidepath/tower"
)

// P10.2
func TestCheckLog(t *testing.T) {
	for _, log := range [][]api.TowerEntry{
		nil, {}, l(), full(), entries("0 gus note x", "0 gus note y", "1000000000000 gus note z", "1000000000000 ida note z"),
		entries("3 gus note " + strings.Repeat("x", 395)), entries("3 gus note " + strings.Repeat(" ", 395)), entries("3 gus note !~ -/:@[`{", "4 gus note "), entries("3 gus note  x  "),
	} {
		if i, e := tower.CheckLog(n(), log); i != 0 || e != api.OK {
			t.Errorf("%v: %d, error %d", log, i, e)
		}
	}
}

// P10.2
func TestCheckLogErrors(t *testing.T) {
	for _, c := range badLogs() {
		if i, e := tower.CheckLog(n(), c.value); i != c.index || e != c.want {
			t.Errorf("%.300v: %d, error %d, want %d, error %d", c.value, i, e, c.index, c.want)
		}
	}
}

// P10.2
func TestAppended(t *testing.T) {
	var log []api.TowerEntry
	for i, x := range l() {
		longer, e := tower.Appended(n(), log, x)
		if !same(longer, l()[:i+1]) || e != api.OK {
			t.Fatalf("%v and %v: %v, error %d", log, x, longer, e)
		}
		log = longer
	}
	if log, e := tower.Appended(n(), full()[1:], entry("7 gus note all is well")); !same(log, full()) || e != api.OK {
		t.Errorf("the last entry that fits: %v, error %d", log, e)
	}
}

// P10.2: the errors of the log come before those of the longer one.
func TestAppendedErrors(t *testing.T) {
	wrong := api.TowerEntry{At: -1, By: "nobody", Text: "\n"}
	for _, c := range badLogs() {
		for _, x := range []api.TowerEntry{wrong, entry("1000000000000 gus note x")} {
			log, e := tower.Appended(n(), c.value, x)
			expectOnly(t, "Appended", log, e, c.want)
		}
		if count := len(c.value); c.index == count-1 {
			log, e := tower.Appended(n(), c.value[:count-1], c.value[count-1])
			expectOnly(t, "Appended", log, e, c.want)
		}
	}
	for _, x := range []api.TowerEntry{entry("7 gus note x"), wrong} {
		log, e := tower.Appended(n(), full(), x)
		expectOnly(t, "Appended to a full log", log, e, api.ErrLarge)
	}
}

// P10.2: all errors of an entry come before those of the next one, and after those of the one
// before.
func TestItemByItem(t *testing.T) {
	for _, c := range []struct {
		further []string
		index   int
		want    api.Errno
	}{
		{[]string{"14 con note", "-1 con note x"}, 7, api.ErrSyntax},
		{[]string{"14 con release aa1 300", "14 nobody x"}, 7, api.ErrDouble},
		{[]string{"14 con note x", "14 con ack r1 1", "14 nobody x"}, 8, api.ErrDouble},
		{[]string{"14 con note x", "13 con note x"}, 8, api.ErrOrder},
		{[]string{"14 con assess r9", "13 con note x"}, 7, api.ErrMissing},
		{[]string{"14 gus lidar l2", "14 con assess r9"}, 7, api.ErrAllowed},
	} {
		if i, e := tower.CheckLog(n(), after(c.further...)); i != c.index || e != c.want {
			t.Errorf("%v: %d, error %d, want %d, error %d", c.further, i, e, c.index, c.want)
		}
	}
}

// texts are those of the table with the least role that may make them, after the log of the
// examples and the entries that make them possible.
func texts() []struct {
	text   string
	role   int
	before []string
} {
	return []struct {
		text   string
		role   int
		before []string
	}{
		{"note x", 0, nil},
		{"lidar l2", 2, nil},
		{"stop l1", 2, nil},
		{"start l1", 2, []string{"14 eve stop l1"}},
		{scan("l1", "r1", 500, 0, 0), 1, nil},
		{"assess r1", 1, nil},
		{"ack r1 1", 1, nil},
		{"arrival r1 bb2 0 120 900 1", 1, nil},
		{"free aa1", 1, nil},
		{"release bb2 190", 1, []string{"14 con arrival r1 bb2 0 120 900 1", "80 con note x"}},
		{"around aa1 300", 1, nil},
		{"close r1 snow", 3, nil},
		{"open r1", 3, []string{"14 ida close r1 snow"}},
	}
}

// P10.2: whoever has the role, or a greater one, may.
func TestRoles(t *testing.T) {
	names := []string{"gus", "dan", "eve", "ida"}
	for _, x := range texts() {
		for role, name := range names {
			log := after(x.before...)
			log = append(log, api.TowerEntry{At: max(20, log[len(log)-1].At), By: name, Text: x.text})
			want := api.OK
			if role < x.role {
				want = api.ErrAllowed
			}
			i, e := tower.CheckLog(n(), log)
			if expect(t, name+": "+x.text, e, want); e != api.OK && i != len(log)-1 {
				t.Errorf("%s: %s: index %d", name, x.text, i)
			}
		}
	}
}

// P10.2: whether somebody may comes after the first word, and before the form and the errors of
// the table.
func TestAllowedFirst(t *testing.T) {
	for _, x := range texts() {
		word, _, _ := strings.Cut(x.text, " ")
		for _, end := range []string{"", " ", "  ", " x", " r9", " l9", " r1 1 1 1", " x x 99999999 x", " l9 r9 7 1 0"} {
			if x.role > 0 {
				_, e := tower.CheckLog(n(), after("14 gus "+word+end))
				expect(t, word+end, e, api.ErrAllowed)
			}
			_, e := tower.CheckLog(n(), after("14 gus "+word+"s"+end))
			expect(t, word+"s"+end, e, api.ErrSyntax)
		}
	}
}

// P10.2: the words of a text are separated by single blanks, and none is empty except in the rest.
func TestForms(t *testing.T) {
	malformed := []string{
		"note",
		"lidar", "lidar ", "lidar  l2", "lidar l2 ", "lidar l2 l3", "lidar  ",
		"stop", "stop ", "stop  l1", "stop l1 ", "stop l1 l1", "stop l9 ",
		"start", "start ", "start  l1", "start l1 ", "start l1 x", "start l9 ",
		"scan", "scan ", "scan l1", "scan l1 ", "scan l1 r1", "scan l1 r1 ", "scan l1 r1 0", "scan  r1 0 x", "scan l1  0 x", "scan l1 r1  x", "scan  l1 r1 0 x", "scan l1  r1 0 x", "scan l1 r1  0 x", "scan l9 r9 x x",
		"assess", "assess ", "assess  r1", "assess r1 ", "assess r1 r1", "assess r9 ",
		"ack", "ack ", "ack r1", "ack r1 ", "ack  1", "ack  r1 1", "ack r1  1", "ack r1 1 ", "ack r1 1 1", "ack r9 x",
		"arrival", "arrival ", "arrival r1", "arrival  bb2 0 120 900 1", "arrival  r1 bb2 0 120 900 1", "arrival r9", "arrival  ",
		"free", "free ", "free  aa1", "free aa1 ", "free aa1 aa1", "free bb2 ",
		"release", "release ", "release aa1", "release aa1 ", "release  100", "release  aa1 100", "release aa1  100", "release aa1 100 ", "release aa1 100 100", "release bb2 x",
		"around", "around ", "around aa1", "around aa1 ", "around  300", "around  aa1 300", "around aa1  300", "around aa1 300 ", "around aa1 300 1", "around bb2 x",
		"close", "close ", "close r1", "close  snow", "close  r1 snow", "close r9", "close  ",
		"open", "open ", "open  r1", "open r1 ", "open r1 r1", "open r9 ",
	}
	// Not numbers of at most 7 digits without a sign.
	for _, number := range []string{"-1", "-0", "+1", "01", "00", "1a", "a", "1.0", "0x1", "12345678", "10000000", "00000001", "1_0", "1-", "/", ":", "1/", "1:", "1,1", "18446744073709551617"} {
		malformed = append(malformed, "scan l1 r1 "+number+" "+readings(0, 0), "scan l9 r9 "+number+" ", "ack r1 "+number, "ack r9 "+number, "release aa1 "+number, "release bb2 "+number, "around aa1 "+number, "around bb2 "+number)
	}
	for _, text := range malformed {
		for _, by := range []string{"ida", "gus"} {
			want := api.ErrSyntax
			if by == "gus" && !strings.HasPrefix(text, "note") {
				want = api.ErrAllowed
			}
			i, e := tower.CheckLog(n(), after("14 "+by+" "+text))
			if expect(t, by+" "+text, e, want); i != 7 {
				t.Errorf("%s: index %d", text, i)
			}
		}
	}
	// Of the most digits.
	for text, want := range map[string]api.Errno{
		"ack r1 9999999": api.ErrState, "release aa1 9999999": api.ErrDouble, "around aa1 9999999": api.ErrRange, "around aa1 3600": api.OK, "scan l1 r1 9999999 x": api.ErrRange, "scan l1 r1 1000000 x": api.ErrRange,
	} {
		_, e := tower.CheckLog(n(), after("14 con "+text))
		expect(t, text, e, want)
	}
}

// P10.2: a valid log is valid again with a note anywhere.
func TestNotes(t *testing.T) {
	want := stateOf(t, n(), l())
	for i := range l() {
		for _, text := range []string{"note ", "note  ", "note lidar l1", "note close r1 snow"} {
			log := slices.Insert(l(), i, api.TowerEntry{At: l()[i].At, By: "gus", Text: text})
			if got := stateOf(t, n(), log); !alike(got, want) {
				t.Errorf("%v: %v, want %v", log, got, want)
			}
		}
	}
}
