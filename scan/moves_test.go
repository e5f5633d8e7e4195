package scan_test

import (
	"testing"

	"glidepath/api"
	"glidepath/scan"
)

// P3.4
func TestWayOf(t *testing.T) {
	for _, x := range []struct {
		a, b api.ScanDirection
		want []api.ScanDirection
	}{
		{dir(7, 8), dir(7, 8), []api.ScanDirection{dir(7, 8)}},
		{dir(358, 1), dir(1, 3), []api.ScanDirection{dir(358, 1), dir(359, 1), dir(0, 1), dir(1, 1), dir(1, 2), dir(1, 3)}},
		{dir(1, 3), dir(359, 2), []api.ScanDirection{dir(1, 3), dir(0, 3), dir(359, 3), dir(359, 2)}},
		{dir(5, 90), dir(5, 88), []api.ScanDirection{dir(5, 90), dir(5, 89), dir(5, 88)}},
		{dir(12, 0), dir(10, 0), []api.ScanDirection{dir(12, 0), dir(11, 0), dir(10, 0)}},
	} {
		if way, e := scan.WayOf(x.a, x.b); e != api.OK || !same(way, x.want) {
			t.Error(x, way, e)
		}
	}
	way, e := scan.WayOf(dir(350, 0), dir(10, 2))
	if e != api.OK || len(way) != 23 || way[20] != dir(10, 0) {
		t.Error(way, e)
	}
	// Half a turn goes upwards; one step more goes downwards.
	for _, x := range []struct {
		a, b, through api.ScanDirection
		length        int
	}{
		{dir(0, 0), dir(180, 0), dir(90, 0), 181},
		{dir(180, 0), dir(0, 0), dir(270, 0), 181},
		{dir(300, 5), dir(120, 5), dir(30, 5), 181},
		{dir(0, 0), dir(181, 0), dir(270, 0), 180},
		{dir(0, 0), dir(179, 0), dir(89, 0), 180},
		{dir(181, 90), dir(0, 0), dir(270, 90), 270},
	} {
		way, e := scan.WayOf(x.a, x.b)
		if e != api.OK || len(way) != x.length || way[90] != x.through && way[89] != x.through {
			t.Error(x, way, e)
		}
	}
	for _, d := range badDirections {
		for _, good := range []api.ScanDirection{{}, dir(359, 90)} {
			way, e := scan.WayOf(d, good)
			expectOnly(t, "first", way, e, api.ErrRange)
			way, e = scan.WayOf(good, d)
			expectOnly(t, "second", way, e, api.ErrRange)
		}
		way, e := scan.WayOf(d, d)
		expectOnly(t, "both", way, e, api.ErrRange)
	}
}

// P3.9
func TestWaysAndBack(t *testing.T) {
	d := draws{9}
	for i := range 600 {
		a, b := d.direction(), d.direction()
		if i%2 == 0 {
			a, b = d.near(), d.near()
		}
		way, e := scan.WayOf(a, b)
		turn, lift := apart(a, b)
		if e != api.OK || len(way) != turn+lift+1 || way[0] != a || way[len(way)-1] != b || !same(way, wayBy(a, b)) {
			t.Fatal(a, b, way, e)
		}
		for i, at := range way[1:] {
			turn, lift := apart(way[i], at)
			if turn+lift != 1 {
				t.Fatal(a, b, way)
			}
		}
		h := d.head(0)
		there, e := scan.MoveTicks(h, a, b)
		back, f := scan.MoveTicks(h, b, a)
		if e != api.OK || f != api.OK || there != back || there != moveBy(h, a, b) {
			t.Fatal(h, a, b, there, back, e, f)
		}
	}
}

// P3.4
func TestMoveTicks(t *testing.T) {
	different := api.ScanHead{Azimuth: axis(1, 1), Elevation: axis(30, 30)}
	for _, x := range []struct {
		head api.ScanHead
		a, b api.ScanDirection
		want int
	}{
		{head(), dir(350, 0), dir(10, 2), 11},
		{head(), dir(0, 0), dir(10, 5), 10},
		{head(), dir(30, 5), dir(0, 90), 43},
		{head(), dir(30, 5), dir(30, 5), 0},
		{head(sector(15, 16, 0, 10)), dir(10, 5), dir(20, 5), 6},
		{head(sector(15, 16, 0, 10)), dir(15, 5), dir(16, 5), 1},
		{different, dir(0, 0), dir(180, 0), 180},
		{different, dir(0, 0), dir(181, 0), 179},
		{different, dir(0, 0), dir(0, 90), 3},
		{different, dir(359, 90), dir(4, 0), 8},
	} {
		if n, e := scan.MoveTicks(x.head, x.a, x.b); e != api.OK || n != x.want {
			t.Error(x, n, e)
		}
	}
}

// P3.4
func TestIsDark(t *testing.T) {
	for _, x := range []struct {
		sectors []api.ScanSector
		a, b    api.ScanDirection
		want    bool
	}{
		{nil, dir(0, 0), dir(180, 90), true},
		{[]api.ScanSector{sector(15, 16, 0, 10)}, dir(10, 5), dir(20, 5), false},
		{[]api.ScanSector{sector(15, 16, 0, 10)}, dir(10, 11), dir(20, 11), true},
		// The first and the last direction belong to the way.
		{[]api.ScanSector{sector(15, 16, 0, 10)}, dir(15, 0), dir(10, 0), false},
		{[]api.ScanSector{sector(15, 16, 0, 10)}, dir(20, 0), dir(16, 0), false},
		{[]api.ScanSector{sector(15, 16, 0, 10)}, dir(20, 0), dir(17, 0), true},
		{[]api.ScanSector{sector(15, 16, 0, 10)}, dir(15, 5), dir(15, 5), false},
		// First in azimuth, then in elevation.
		{[]api.ScanSector{sector(15, 15, 5, 5)}, dir(10, 0), dir(20, 5), true},
		{[]api.ScanSector{sector(15, 15, 5, 5)}, dir(20, 5), dir(10, 0), false},
		{[]api.ScanSector{sector(15, 15, 5, 5)}, dir(10, 0), dir(15, 9), false},
		{[]api.ScanSector{sector(15, 15, 5, 5)}, dir(15, 9), dir(10, 0), true},
		{[]api.ScanSector{sector(15, 15, 5, 5)}, dir(18, 9), dir(15, 0), false},
		// The shorter way round, upwards for half a turn.
		{[]api.ScanSector{sector(90, 90, 0, 0)}, dir(1, 0), dir(181, 0), false},
		{[]api.ScanSector{sector(90, 90, 0, 0)}, dir(181, 0), dir(1, 0), true},
		{[]api.ScanSector{sector(90, 90, 0, 0)}, dir(1, 0), dir(182, 0), true},
		{[]api.ScanSector{sector(270, 270, 0, 0)}, dir(1, 0), dir(182, 0), false},
		{[]api.ScanSector{sector(40, 50, 5, 6), sector(359, 359, 1, 1)}, dir(1, 1), dir(350, 1), false},
		{[]api.ScanSector{sector(359, 359, 1, 1), sector(40, 50, 5, 6)}, dir(1, 1), dir(350, 1), false},
	} {
		if is, e := scan.IsDark(head(x.sectors...), x.a, x.b); e != api.OK || is != x.want {
			t.Error(x, is, e)
		}
	}
	d := draws{4}
	for range 500 {
		h, a, b := d.head(d.from(0, 3)), d.near(), d.near()
		if is, e := scan.IsDark(h, a, b); e != api.OK || is != darkBy(h, a, b) {
			t.Fatal(h, a, b, is, e)
		}
	}
}

// P3.4
func TestMoveErrors(t *testing.T) {
	good := dir(5, 5)
	for _, x := range badHeads() {
		for _, d := range []api.ScanDirection{good, dir(-1, 0)} {
			n, e := scan.MoveTicks(x.head, d, d)
			expectOnly(t, "head", n, e, x.want)
			is, e := scan.IsDark(x.head, d, d)
			expectOnly(t, "head", is, e, x.want)
		}
	}
	for _, d := range badDirections {
		for _, h := range []api.ScanHead{head(), head(sector(0, 359, 1, 90))} {
			for _, ends := range [][2]api.ScanDirection{{d, good}, {good, d}, {d, d}} {
				n, e := scan.MoveTicks(h, ends[0], ends[1])
				expectOnly(t, "direction", n, e, api.ErrRange)
				is, e := scan.IsDark(h, ends[0], ends[1])
				expectOnly(t, "direction", is, e, api.ErrRange)
			}
		}
	}
}
