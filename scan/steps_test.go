package scan_test

import (
	"math"
	"reflect"
	"slices"
	"testing"

	"glidepath/api"
	"glidepath/scan"
)

type badProgram struct {
	steps []api.ScanStep
	index int
	want  api.Errno
}

// badSteps are steps with their errors; most have errors that are listed later, too, which must not count.
func badSteps() map[api.Errno][]api.ScanStep {
	full, deep := repeat(1, repeat(1, repeat(1, point(0, 0, 0)))), point(0, 0, 0)
	for range 500 {
		deep = repeat(1, deep)
	}
	bad := map[api.Errno][]api.ScanStep{
		api.ErrKind: {
			{Kind: -1}, {Kind: api.ScanKinds}, {Kind: math.MinInt}, {Kind: math.MaxInt},
			{Kind: 3, Direction: dir(-1, 0), To: -1, By: 1, Ticks: -1, Times: 1, Body: steps(full)},
			repeat(1, api.ScanStep{Kind: 3}), repeat(1, point(0, 0, 0), repeat(1, api.ScanStep{Kind: -1}, full)),
		},
		api.ErrForm: badForms(full),
		api.ErrRange: {
			sweep(0, -1, 1, 0, 0), sweep(0, 360, 1, 0, 0), sweep(0, math.MinInt, 1, 0, 0), sweep(0, math.MaxInt, 1, 0, 0),
			sweep(0, 0, 0, 0, 0), sweep(0, 0, 361, 0, 0), sweep(0, 0, -1, 0, 0), sweep(0, 0, math.MinInt, 0, 0), sweep(0, 0, math.MaxInt, 0, 0),
			repeat(0, point(0, 0, 0)), repeat(11, point(0, 0, 0)), repeat(-1, point(0, 0, 0)), repeat(math.MinInt, point(0, 0, 0)), repeat(math.MaxInt),
			repeat(0), repeat(0, full), repeat(11, slices.Repeat(steps(point(0, 0, 0)), 11)...),
			repeat(1, repeat(1, repeat(0, point(0, 0, 0)))), repeat(1, point(-1, 0, 0), full), repeat(1, repeat(1, sweep(0, 0, 0, 0, 0))),
		},
		api.ErrFull: {
			full, deep, repeat(1, point(0, 0, 0), repeat(1, repeat(10))), repeat(1, repeat(1, repeat(1, point(-1, 0, 0)))), repeat(1, repeat(1, full, point(-1, 0, 0))),
		},
		api.ErrShape: {
			repeat(1), repeat(10, steps()...), repeat(1, repeat(1)), repeat(1, repeat(1), full),
		},
		api.ErrLarge: {
			repeat(1, slices.Repeat(steps(point(-1, 0, 0)), 11)...), repeat(1, repeat(1, slices.Repeat(steps(full), 11)...)),
		},
	}
	for _, d := range badDirections {
		bad[api.ErrRange] = append(bad[api.ErrRange], point(d.Azimuth, d.Elevation, 0), sweep(d.Azimuth, 0, 1, d.Elevation, 0))
	}
	for _, ticks := range []int{-1, 1001, math.MinInt, math.MaxInt} {
		bad[api.ErrRange] = append(bad[api.ErrRange], point(0, 0, ticks), sweep(0, 0, 1, 0, ticks))
	}
	return bad
}

// badForms are steps with the error ErrForm; full is a repeat with the error ErrFull.
func badForms(full api.ScanStep) []api.ScanStep {
	bad := steps(repeat(10, repeat(10, api.ScanStep{Kind: api.ScanPoint, To: -1, Ticks: 1001})))
	for _, x := range []api.ScanStep{
		{Kind: api.ScanPoint, To: 1}, {Kind: api.ScanPoint, By: 1}, {Kind: api.ScanPoint, Times: 1}, {Kind: api.ScanPoint, Body: steps(point(0, 0, 0))},
		{Kind: api.ScanPoint, To: -1}, {Kind: api.ScanPoint, By: math.MinInt}, {Kind: api.ScanPoint, Times: math.MaxInt},
		{Kind: api.ScanSweep, By: 1, Times: 1}, {Kind: api.ScanSweep, By: 1, Times: -1}, {Kind: api.ScanSweep, By: 1, Body: steps(point(0, 0, 0))},
	} {
		bad = append(bad, x)
		x.Ticks = -1
		bad = append(bad, x)
		x.Ticks, x.Direction = 0, dir(0, 91)
		bad = append(bad, x)
	}
	for _, change := range []func(x *api.ScanStep){
		func(x *api.ScanStep) { x.Direction.Azimuth = 1 },
		func(x *api.ScanStep) { x.Direction.Elevation = 1 },
		func(x *api.ScanStep) { x.Direction.Azimuth = -1 },
		func(x *api.ScanStep) { x.To = 1 },
		func(x *api.ScanStep) { x.By = 1 },
		func(x *api.ScanStep) { x.Ticks = 1 },
		func(x *api.ScanStep) { x.Ticks = math.MinInt },
	} {
		for _, x := range steps(repeat(1, point(0, 0, 0)), repeat(0), full) {
			change(&x)
			bad = append(bad, x)
		}
	}
	return bad
}

// badPrograms are programs with their errors, and the indexes of these.
func badPrograms() []badProgram {
	good, bad := point(0, 0, 0), point(-1, 0, 0)
	l := []badProgram{
		{nil, 0, api.ErrShape},
		{steps(), 0, api.ErrShape},
		{slices.Repeat(steps(good), 11), 0, api.ErrLarge},
		{slices.Repeat(steps(bad), 11), 0, api.ErrLarge},
		// Item by item.
		{steps(good, bad, api.ScanStep{Kind: 3}), 1, api.ErrRange},
		{steps(good, good, repeat(1), bad), 2, api.ErrShape},
		// More than 60 stops, and the error of a step, which comes before.
		{steps(good, sweep(0, 59, 1, 0, 0)), 0, api.ErrLarge},
		{steps(good, sweep(0, 60, 1, 0, 0)), 0, api.ErrLarge},
		{steps(good, sweep(0, 59, 1, 0, 0), bad), 2, api.ErrRange},
		{steps(sweep(300, 240, 5, 0, 0)), 0, api.ErrLarge},
		{steps(repeat(6, slices.Repeat(steps(good), 10)...), good), 0, api.ErrLarge},
		{steps(repeat(10, good, repeat(3, good, good))), 0, api.ErrLarge},
		{steps(repeat(10, slices.Repeat(steps(good), 7)...)), 0, api.ErrLarge},
		{slices.Repeat(steps(repeat(10, slices.Repeat(steps(repeat(10, slices.Repeat(steps(sweep(0, 359, 1, 0, 0)), 10)...)), 10)...)), 10), 0, api.ErrLarge},
	}
	for want, errors := range badSteps() {
		for i, x := range errors {
			index := i % 10
			program := append(slices.Repeat(steps(good), index), x)
			if index < 9 {
				program = append(program, bad)
			}
			l = append(l, badProgram{program, index, want})
		}
	}
	return l
}

// P3.2
func TestCheckSteps(t *testing.T) {
	for _, x := range badPrograms() {
		if i, e := scan.CheckSteps(x.steps); i != x.index || e != x.want {
			t.Error(scan.FormatSteps(x.steps), i, e, x.index, x.want)
		}
	}
	empty := point(0, 0, 0)
	empty.Body = steps()
	for _, l := range [][]api.ScanStep{
		example(),
		steps(empty),
		steps(point(359, 90, 1000)),
		steps(sweep(359, 359, 360, 90, 1000)),
		steps(sweep(0, 0, 1, 0, 0)),
		steps(sweep(0, 59, 1, 0, 0)),
		steps(sweep(300, 239, 5, 0, 0)),
		steps(sweep(300, 59, 5, 0, 0), repeat(4, repeat(6, point(1, 1, 1))), point(0, 0, 0)),
		steps(sweep(350, 3, 1, 0, 0), sweep(350, 3, 1, 0, 0), sweep(350, 3, 1, 0, 0), sweep(350, 3, 1, 0, 0)),
		slices.Repeat(steps(point(1, 2, 3)), 10),
		steps(repeat(6, slices.Repeat(steps(point(1, 2, 3)), 10)...)),
		steps(repeat(1, repeat(1, point(0, 0, 0)), point(0, 0, 0)), repeat(10, point(0, 0, 0))),
	} {
		if i, e := scan.CheckSteps(l); i != 0 || e != api.OK {
			t.Error(scan.FormatSteps(l), i, e)
		}
	}
}

// P3.2
func TestCompiled(t *testing.T) {
	a, b, c := point(1, 2, 3), point(4, 5, 6), point(7, 8, 9)
	x, y, z := stop(1, 2, 3), stop(4, 5, 6), stop(7, 8, 9)
	for _, test := range []struct {
		steps []api.ScanStep
		want  []api.ScanStop
	}{
		{example(), []api.ScanStop{stop(0, 0, 2), stop(10, 5, 1), stop(20, 5, 1), stop(30, 5, 1), stop(0, 90, 1), stop(0, 90, 1)}},
		{steps(point(1, 2, 0)), []api.ScanStop{stop(1, 2, 0)}},
		{steps(sweep(350, 10, 10, 3, 4)), []api.ScanStop{stop(350, 3, 4), stop(0, 3, 4), stop(10, 3, 4)}},
		{steps(sweep(350, 9, 10, 3, 4)), []api.ScanStop{stop(350, 3, 4), stop(0, 3, 4)}},
		{steps(sweep(355, 2, 3, 0, 0)), []api.ScanStop{stop(355, 0, 0), stop(358, 0, 0), stop(1, 0, 0)}},
		{steps(sweep(10, 5, 100, 0, 0)), []api.ScanStop{stop(10, 0, 0), stop(110, 0, 0), stop(210, 0, 0), stop(310, 0, 0)}},
		{steps(sweep(0, 359, 180, 0, 0)), []api.ScanStop{stop(0, 0, 0), stop(180, 0, 0)}},
		// A sweep whose By is greater than the distance, and one with To equal to its azimuth.
		{steps(sweep(10, 20, 11, 5, 6)), []api.ScanStop{stop(10, 5, 6)}},
		{steps(sweep(10, 9, 360, 5, 6)), []api.ScanStop{stop(10, 5, 6)}},
		{steps(sweep(10, 10, 1, 5, 6)), []api.ScanStop{stop(10, 5, 6)}},
		{steps(repeat(2, a, repeat(2, b), c), b), []api.ScanStop{x, y, y, z, x, y, y, z, y}},
		{steps(repeat(1, repeat(2, a, b), repeat(1, c))), []api.ScanStop{x, y, x, y, z}},
		{steps(repeat(10, c)), slices.Repeat([]api.ScanStop{z}, 10)},
	} {
		if l, e := scan.Compiled(test.steps); e != api.OK || !same(l, test.want) {
			t.Error(scan.FormatSteps(test.steps), l, e)
		}
	}
	for _, x := range badPrograms() {
		l, e := scan.Compiled(x.steps)
		expectOnly(t, scan.FormatSteps(x.steps), l, e, x.want)
	}
	d := draws{2}
	for range 300 {
		l := d.program()
		if stops, e := scan.Compiled(l); e != api.OK || !same(stops, stopsBy(l)) {
			t.Fatal(scan.FormatSteps(l), stops, e)
		}
	}
}

// R3
func TestMemory(t *testing.T) {
	l := steps(point(350, 1, 2), repeat(2, sweep(10, 30, 10, 5, 1), repeat(2, point(0, 90, 1))))
	before := steps(point(350, 1, 2), repeat(2, sweep(10, 30, 10, 5, 1), repeat(2, point(0, 90, 1))))
	h := head(sector(100, 110, 0, 5), sector(15, 16, 6, 10))
	directions := []api.ScanDirection{dir(20, 0), dir(10, 0), dir(350, 0)}
	order := []int{1, 0, 2}
	requests := []api.ScanRequest{request(45, 45, 5), request(12, 4, 2), request(200, 0, 0)}
	for range 2 {
		scan.CheckSteps(l)
		stops, _ := scan.Compiled(l)
		visits, _ := scan.VisitsOf(h, l)
		way, _ := scan.WayOf(directions[0], directions[1])
		unmet, _ := scan.UnmetBy(h, l, requests)
		best, _, _ := scan.OrderOf(h, directions)
		if len(stops) != 11 || stops[1] != stop(10, 5, 1) || len(visits) != 11 || len(way) != 11 || !same(unmet, []int{0, 2}) || !same(best, []int{2, 1, 0}) {
			t.Error(stops, visits, way, unmet, best)
		}
		clear(stops)
		clear(visits)
		clear(way)
		clear(unmet)
		clear(best)
		scan.CheckOrder(h, directions, order)
		scan.BoundOf(h, directions)
		scan.FirstLit(h, l)
		scan.FormatSteps(l)
	}
	if !reflect.DeepEqual(l, before) || !reflect.DeepEqual(h, head(sector(100, 110, 0, 5), sector(15, 16, 6, 10))) {
		t.Error(l, h)
	}
	if !same(directions, []api.ScanDirection{dir(20, 0), dir(10, 0), dir(350, 0)}) || !same(order, []int{1, 0, 2}) {
		t.Error(directions, order)
	}
	if !same(requests, []api.ScanRequest{request(45, 45, 5), request(12, 4, 2), request(200, 0, 0)}) {
		t.Error(requests)
	}
}
