package scan_test

import (
	"math"
	"slices"
	"testing"

	"glidepath/api"
	"glidepath/scan"
)

// P3.6
func TestOrderOf(t *testing.T) {
	two := []api.ScanDirection{dir(20, 0), dir(10, 0)}
	corner := []api.ScanDirection{dir(10, 0), dir(0, 20)}
	for _, x := range []struct {
		sectors    []api.ScanSector
		directions []api.ScanDirection
		want       []int
		ticks      int
	}{
		{nil, two, []int{1, 0}, 12},
		{nil, two[:1], []int{0}, 9},
		{nil, []api.ScanDirection{dir(0, 0)}, []int{0}, 0},
		{nil, []api.ScanDirection{dir(60, 0), dir(50, 0), dir(40, 0), dir(30, 0), dir(20, 0), dir(10, 0)}, []int{5, 4, 3, 2, 1, 0}, 36},
		// Of orders with equal ticks the lexicographically first one.
		{nil, []api.ScanDirection{dir(0, 0), dir(0, 0), dir(0, 0)}, []int{0, 1, 2}, 0},
		{nil, []api.ScanDirection{dir(10, 0), dir(350, 0)}, []int{0, 1}, 15},
		{nil, []api.ScanDirection{dir(350, 0), dir(10, 0)}, []int{0, 1}, 15},
		{nil, []api.ScanDirection{dir(20, 0), dir(10, 0), dir(20, 0), dir(10, 0)}, []int{1, 3, 0, 2}, 12},
		// The order with fewer ticks is not dark.
		{nil, corner, []int{0, 1}, 21},
		{[]api.ScanSector{sector(5, 5, 0, 0)}, corner, []int{1, 0}, 24},
		{[]api.ScanSector{sector(5, 5, 1, 90)}, corner, []int{0, 1}, 21},
		{[]api.ScanSector{sector(100, 200, 0, 90)}, two, []int{1, 0}, 12},
	} {
		order, ticks, e := scan.OrderOf(head(x.sectors...), x.directions)
		if e != api.OK || !same(order, x.want) || ticks != x.ticks {
			t.Error(x, order, ticks, e)
		}
	}
	for _, s := range []api.ScanSector{sector(5, 5, 0, 90), sector(20, 20, 0, 0), sector(15, 15, 0, 0), sector(10, 10, 0, 0)} {
		order, ticks, e := scan.OrderOf(head(s), two)
		expectOnly(t, "no order", order, e, api.ErrNone)
		expectOnly(t, "no order", ticks, e, api.ErrNone)
	}
}

// P3.6
func TestCheckOrder(t *testing.T) {
	two := []api.ScanDirection{dir(20, 0), dir(10, 0)}
	corner := []api.ScanDirection{dir(10, 0), dir(0, 20)}
	for _, x := range []struct {
		sectors    []api.ScanSector
		directions []api.ScanDirection
		order      []int
		ticks      int
	}{
		{nil, two, []int{1, 0}, 12},
		{nil, two, []int{0, 1}, 15},
		{nil, two[:1], []int{0}, 9},
		{nil, []api.ScanDirection{dir(0, 10), dir(0, 10)}, []int{1, 0}, 6},
		{[]api.ScanSector{sector(5, 5, 0, 0)}, corner, []int{1, 0}, 24},
		{nil, []api.ScanDirection{dir(60, 0), dir(50, 0), dir(40, 0), dir(30, 0), dir(20, 0), dir(10, 0)}, []int{5, 4, 3, 2, 0, 1}, 39},
	} {
		if ticks, e := scan.CheckOrder(head(x.sectors...), x.directions, x.order); e != api.OK || ticks != x.ticks {
			t.Error(x, ticks, e)
		}
	}
	for _, x := range []struct {
		order []int
		want  api.Errno
	}{
		{nil, api.ErrShape},
		{[]int{0}, api.ErrShape},
		{[]int{0, 1, 2}, api.ErrShape},
		{[]int{2}, api.ErrShape},
		{[]int{-1, 0, 0}, api.ErrShape},
		{[]int{-1, 0}, api.ErrMissing},
		{[]int{0, 2}, api.ErrMissing},
		{[]int{2, 2}, api.ErrMissing},
		{[]int{math.MinInt, 0}, api.ErrMissing},
		{[]int{1, math.MaxInt}, api.ErrMissing},
		{[]int{0, 0}, api.ErrDouble},
		{[]int{1, 1}, api.ErrDouble},
		// The order that is complete is not dark; errors of the indexes come before.
		{[]int{0, 1}, api.ErrRefused},
	} {
		ticks, e := scan.CheckOrder(head(sector(5, 5, 0, 0)), corner, x.order)
		expectOnly(t, "order", ticks, e, x.want)
	}
	three := append(slices.Clone(two), dir(30, 0))
	for _, x := range []struct {
		order []int
		want  api.Errno
	}{
		{[]int{1, 1, 3}, api.ErrDouble},
		{[]int{1, 3, 1}, api.ErrMissing},
		{[]int{0, 1, 0}, api.ErrDouble},
	} {
		ticks, e := scan.CheckOrder(head(), three, x.order)
		expectOnly(t, "item by item", ticks, e, x.want)
	}
	// The last move is one of the moves of an order.
	ticks, e := scan.CheckOrder(head(sector(25, 25, 0, 0)), three, []int{1, 0, 2})
	expectOnly(t, "the last move", ticks, e, api.ErrRefused)
}

// P3.6
func TestBoundOf(t *testing.T) {
	for _, x := range []struct {
		sectors    []api.ScanSector
		directions []api.ScanDirection
		want       int
	}{
		{nil, []api.ScanDirection{dir(20, 0), dir(10, 0)}, 12},
		{nil, []api.ScanDirection{dir(20, 0)}, 9},
		{nil, []api.ScanDirection{dir(0, 0)}, 0},
		{nil, []api.ScanDirection{dir(10, 0), dir(350, 0)}, 12},
		{nil, []api.ScanDirection{dir(20, 0), dir(20, 0)}, 0},
		{nil, []api.ScanDirection{dir(100, 0), dir(110, 0)}, 12},
		// Moves that are not dark count, too.
		{[]api.ScanSector{sector(5, 15, 0, 90)}, []api.ScanDirection{dir(20, 0), dir(10, 0)}, 12},
	} {
		if bound, e := scan.BoundOf(head(x.sectors...), x.directions); e != api.OK || bound != x.want {
			t.Error(x, bound, e)
		}
	}
}

// ordersOf returns all orders of a number of indexes in lexicographic order, by counting and sorting.
func ordersOf(count int) [][]int {
	orders := [][]int{nil}
	for next := range count {
		var longer [][]int
		for _, order := range orders {
			for at := range next + 1 {
				longer = append(longer, slices.Insert(slices.Clone(order), at, next))
			}
		}
		orders = longer
	}
	slices.SortFunc(orders, slices.Compare)
	return orders
}

func orderBy(h api.ScanHead, l []api.ScanDirection, order []int) (int, bool) {
	ticks, isDark, at := 0, true, h.Home
	for _, i := range order {
		ticks += moveBy(h, at, l[i])
		isDark = isDark && darkBy(h, at, l[i])
		at = l[i]
	}
	return ticks, isDark
}

func boundBy(h api.ScanHead, l []api.ScanDirection) int {
	bound := 0
	for i, to := range l {
		least := moveBy(h, h.Home, to)
		for j, from := range l {
			if i != j {
				least = min(least, moveBy(h, from, to))
			}
		}
		bound += least
	}
	return bound
}

// P3.13
func TestBestOrder(t *testing.T) {
	d := draws{15}
	none, some := 0, 0
	for round := range 120 {
		h, l := d.head(d.from(0, 2)), d.directions(1+round%4)
		bound, e := scan.BoundOf(h, l)
		if e != api.OK || bound != boundBy(h, l) {
			t.Fatal(h, l, bound, e)
		}
		var best []int
		least := math.MaxInt
		for _, order := range ordersOf(len(l)) {
			ticks, isDark := orderBy(h, l, order)
			checked, e := scan.CheckOrder(h, l, order)
			if isDark && (e != api.OK || checked != ticks) || !isDark && (e != api.ErrRefused || checked != 0) || ticks < bound {
				t.Fatal(h, l, order, checked, e, ticks)
			}
			if isDark && ticks < least {
				best, least = order, ticks
			}
		}
		order, ticks, e := scan.OrderOf(h, l)
		if best == nil {
			none++
			expectOnly(t, "no order", order, e, api.ErrNone)
			expectOnly(t, "no order", ticks, e, api.ErrNone)
			continue
		}
		some++
		if e != api.OK || !same(order, best) || ticks != least {
			t.Fatal(h, l, order, ticks, e, best, least)
		}
		if checked, e := scan.CheckOrder(h, l, order); e != api.OK || checked != ticks {
			t.Fatal(h, l, order, checked, e)
		}
	}
	if none < 10 || some < 10 {
		t.Error("the cases are too alike:", none, some)
	}
}

// P3.13
func TestBestOrderOfSix(t *testing.T) {
	d := draws{16}
	for range 5 {
		h, l := d.head(0), d.directions(api.MaxScanOrder)
		h.Azimuth, h.Elevation = axis(2, 1), axis(3, 2)
		h.Reserved = []api.ScanSector{sector(20, 25, 0, 90)}
		order, ticks, e := scan.OrderOf(h, l)
		expect(t, "six", e, api.OK)
		for _, other := range ordersOf(len(l)) {
			n, isDark := orderBy(h, l, other)
			if isDark && (n < ticks || n == ticks && slices.Compare(other, order) < 0) {
				t.Fatal(h, l, order, ticks, other, n)
			}
		}
		if n, isDark := orderBy(h, l, order); n != ticks || !isDark {
			t.Fatal(h, l, order, ticks, n, isDark)
		}
	}
}

// P3.6
func TestOrderErrors(t *testing.T) {
	check := func(h api.ScanHead, l []api.ScanDirection, want api.Errno) {
		t.Helper()
		order, ticks, e := scan.OrderOf(h, l)
		expectOnly(t, "best", order, e, want)
		expectOnly(t, "best", ticks, e, want)
		bound, e := scan.BoundOf(h, l)
		expectOnly(t, "bound", bound, e, want)
		for _, order := range [][]int{nil, {0}, {0, 1, 2, 3, 4, 5, 6}, {-1}} {
			ticks, e := scan.CheckOrder(h, l, order)
			expectOnly(t, "check", ticks, e, want)
		}
	}
	for _, x := range badHeads() {
		check(x.head, nil, x.want)
		check(x.head, []api.ScanDirection{dir(5, 5)}, x.want)
	}
	for _, h := range []api.ScanHead{head(), head(sector(1, 359, 0, 90))} {
		check(h, nil, api.ErrShape)
		check(h, []api.ScanDirection{}, api.ErrShape)
		check(h, slices.Repeat([]api.ScanDirection{dir(5, 5)}, 7), api.ErrLarge)
		check(h, slices.Repeat([]api.ScanDirection{dir(-1, 0)}, 7), api.ErrLarge)
		for _, d := range badDirections {
			check(h, []api.ScanDirection{d}, api.ErrRange)
			check(h, []api.ScanDirection{dir(5, 5), dir(5, 5), d}, api.ErrRange)
		}
	}
}
