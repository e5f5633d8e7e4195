package scan_test

import (
	"testing"

	"glidepath/api"
	"glidepath/scan"
)

// P3.3
func TestCheckHead(t *testing.T) {
	for _, x := range badHeads() {
		if i, e := scan.CheckHead(x.head); i != x.index || e != x.want {
			t.Error(x.head, i, e, x.index, x.want)
		}
	}
	inOrder := head(sector(1, 1, 0, 0), sector(1, 1, 0, 0), sector(0, 359, 1, 90), sector(359, 359, 90, 90), sector(1, 359, 0, 90), sector(0, 0, 2, 2))
	for _, h := range []api.ScanHead{
		head(),
		{Azimuth: axis(1, 30), Elevation: axis(30, 1), Reserved: []api.ScanSector{}},
		{Home: dir(359, 90), Azimuth: axis(30, 30), Elevation: axis(1, 1), Reserved: []api.ScanSector{sector(0, 358, 0, 90), sector(0, 359, 0, 89)}},
		inOrder,
	} {
		if i, e := scan.CheckHead(h); i != 0 || e != api.OK {
			t.Error(h, i, e)
		}
	}
}

// P3.3
func TestIsReserved(t *testing.T) {
	for _, x := range []struct {
		sector api.ScanSector
		in     []api.ScanDirection
		out    []api.ScanDirection
	}{
		{sector(15, 16, 0, 10), []api.ScanDirection{dir(15, 0), dir(16, 10), dir(15, 5)}, []api.ScanDirection{dir(14, 5), dir(17, 5), dir(15, 11), dir(195, 5)}},
		{sector(350, 10, 3, 4), []api.ScanDirection{dir(350, 3), dir(359, 4), dir(0, 3), dir(10, 4)}, []api.ScanDirection{dir(349, 3), dir(11, 4), dir(0, 2), dir(0, 5), dir(180, 3)}},
		{sector(10, 10, 90, 90), []api.ScanDirection{dir(10, 90)}, []api.ScanDirection{dir(9, 90), dir(11, 90), dir(10, 89), dir(190, 90)}},
		{sector(0, 359, 1, 90), []api.ScanDirection{dir(0, 1), dir(359, 90), dir(180, 45)}, []api.ScanDirection{dir(0, 0), dir(359, 0)}},
		{sector(10, 9, 1, 1), []api.ScanDirection{dir(0, 1), dir(9, 1), dir(10, 1), dir(359, 1)}, []api.ScanDirection{dir(9, 0), dir(10, 2)}},
		{sector(359, 0, 1, 1), []api.ScanDirection{dir(359, 1), dir(0, 1)}, []api.ScanDirection{dir(1, 1), dir(358, 1)}},
	} {
		for _, h := range []api.ScanHead{head(x.sector), head(sector(100, 100, 50, 50), x.sector), head(x.sector, sector(100, 100, 50, 50))} {
			for _, d := range x.in {
				if is, e := scan.IsReserved(h, d); e != api.OK || !is {
					t.Error(h, d, is, e)
				}
			}
			for _, d := range x.out {
				if is, e := scan.IsReserved(h, d); e != api.OK || is {
					t.Error(h, d, is, e)
				}
			}
		}
	}
	for _, x := range badHeads() {
		for _, d := range []api.ScanDirection{{}, dir(5, 5), dir(-1, 0)} {
			is, e := scan.IsReserved(x.head, d)
			expectOnly(t, "head", is, e, x.want)
		}
	}
	for _, d := range badDirections {
		for _, h := range []api.ScanHead{head(), head(sector(0, 359, 1, 90)), head(sector(1, 359, 0, 90))} {
			is, e := scan.IsReserved(h, d)
			expectOnly(t, "direction", is, e, api.ErrRange)
		}
	}
}

// P3.3
func TestSectorsCountAzimuths(t *testing.T) {
	for s, want := range map[api.ScanSector]int{
		sector(350, 10, 1, 1): 21, sector(10, 10, 1, 1): 1, sector(10, 350, 1, 1): 341, sector(10, 9, 1, 1): 360, sector(0, 359, 1, 1): 360, sector(359, 0, 1, 1): 2,
	} {
		count := 0
		for azimuth := range api.ScanTurn {
			if is, e := scan.IsReserved(head(s), dir(azimuth, 1)); e == api.OK && is {
				count++
			}
		}
		if count != want {
			t.Error(s, count, want)
		}
	}
	d := draws{3}
	for range 100 {
		h := d.head(d.from(0, 6))
		for range 20 {
			at := d.near()
			if is, e := scan.IsReserved(h, at); e != api.OK || is != reservedBy(h, at) {
				t.Fatal(h, at, is, e)
			}
		}
	}
}
