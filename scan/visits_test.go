package scan_test

import (
	"slices"
	"testing"

	"glidepath/api"
	"glidepath/scan"
)

// P3.5
func TestVisitsOf(t *testing.T) {
	away := api.ScanHead{Home: dir(350, 10), Azimuth: axis(1, 1), Elevation: axis(30, 30)}
	for _, x := range []struct {
		head  api.ScanHead
		steps []api.ScanStep
		want  []api.ScanVisit
	}{
		{head(), example(), []api.ScanVisit{
			visit(0, 0, 0, 2), visit(10, 5, 12, 13), visit(20, 5, 19, 20), visit(30, 5, 26, 27), visit(0, 90, 70, 71), visit(0, 90, 71, 72),
		}},
		// A stop of 0 ticks is a visit, too.
		{head(), steps(point(0, 0, 0)), []api.ScanVisit{visit(0, 0, 0, 0)}},
		{head(), steps(point(1, 0, 0), point(1, 0, 0)), []api.ScanVisit{visit(1, 0, 1, 1), visit(1, 0, 1, 1)}},
		{away, steps(repeat(2, point(0, 10, 5), point(0, 40, 1))), []api.ScanVisit{
			visit(0, 10, 10, 15), visit(0, 40, 16, 17), visit(0, 10, 18, 23), visit(0, 40, 24, 25),
		}},
		// Reserved directions do not change visits.
		{head(sector(5, 5, 0, 90)), steps(point(5, 0, 1), point(6, 0, 2)), []api.ScanVisit{visit(5, 0, 4, 5), visit(6, 0, 6, 8)}},
	} {
		visits, e := scan.VisitsOf(x.head, x.steps)
		if e != api.OK || !same(visits, x.want) {
			t.Error(scan.FormatSteps(x.steps), visits, e)
		}
		duration, e := scan.DurationOf(x.head, x.steps)
		if e != api.OK || duration != x.want[len(x.want)-1].Ticks.Hi {
			t.Error(scan.FormatSteps(x.steps), duration, e)
		}
	}
}

// P3.11
func TestVisitsAscend(t *testing.T) {
	d := draws{11}
	for range 200 {
		h, l := d.head(d.from(0, 2)), d.program()
		visits, e := scan.VisitsOf(h, l)
		if e != api.OK || !same(visits, visitsBy(h, l)) {
			t.Fatal(h, scan.FormatSteps(l), visits, e)
		}
		stops, _ := scan.Compiled(l)
		at, sum, before := h.Home, 0, 0
		for i, v := range visits {
			n, _ := scan.MoveTicks(h, at, v.Direction)
			sum += n + stops[i].Ticks
			if v.Direction != stops[i].Direction || v.Ticks.Lo < before || v.Ticks.Hi < v.Ticks.Lo {
				t.Fatal(h, scan.FormatSteps(l), visits)
			}
			at, before = v.Direction, v.Ticks.Hi
		}
		if duration, e := scan.DurationOf(h, l); e != api.OK || duration != sum {
			t.Fatal(h, scan.FormatSteps(l), duration, sum, e)
		}
	}
}

// P3.11
func TestRepeatsAreWrittenOut(t *testing.T) {
	d := draws{12}
	for tried := 0; tried < 100; {
		h, body := d.head(1), d.steps(1)
		times := d.from(1, 10/len(body))
		short, long := steps(repeat(times, body...)), slices.Repeat(body, times)
		if len(stopsBy(long)) > api.MaxScanStops {
			continue
		}
		tried++
		a, e := scan.VisitsOf(h, short)
		b, f := scan.VisitsOf(h, long)
		if e != api.OK || f != api.OK || !same(a, b) {
			t.Fatal(h, scan.FormatSteps(short), a, b, e, f)
		}
	}
}

// P3.5
func TestFirstLit(t *testing.T) {
	for _, x := range []struct {
		sectors []api.ScanSector
		steps   []api.ScanStep
		index   int
		want    api.ScanDirection
	}{
		{[]api.ScanSector{sector(15, 16, 0, 10)}, example(), 2, dir(15, 5)},
		{[]api.ScanSector{sector(1, 359, 90, 90), sector(20, 20, 5, 5)}, example(), 2, dir(20, 5)},
		{[]api.ScanSector{sector(0, 359, 90, 90)}, example(), 4, dir(0, 90)},
		{[]api.ScanSector{sector(0, 359, 40, 80)}, example(), 4, dir(0, 40)},
		{[]api.ScanSector{sector(25, 30, 0, 10), sector(1, 10, 1, 1)}, example(), 1, dir(10, 1)},
		{[]api.ScanSector{sector(2, 5, 0, 0), sector(1, 1, 0, 0)}, example(), 1, dir(1, 0)},
		{[]api.ScanSector{sector(5, 5, 0, 0)}, steps(point(5, 0, 0)), 0, dir(5, 0)},
		{[]api.ScanSector{sector(4, 5, 0, 0)}, steps(point(5, 0, 0), point(9, 0, 0)), 0, dir(4, 0)},
		{[]api.ScanSector{sector(90, 90, 0, 0)}, steps(point(0, 0, 0), point(180, 0, 0)), 1, dir(90, 0)},
	} {
		if i, d, e := scan.FirstLit(head(x.sectors...), x.steps); e != api.OK || i != x.index || d != x.want {
			t.Error(x.sectors, scan.FormatSteps(x.steps), i, d, e)
		}
	}
	for _, sectors := range [][]api.ScanSector{nil, {sector(31, 359, 0, 4)}, {sector(15, 16, 6, 10), sector(11, 30, 4, 4)}} {
		i, d, e := scan.FirstLit(head(sectors...), example())
		expectOnly(t, "nothing lit", d, e, api.ErrNone)
		expectOnly(t, "nothing lit", i, e, api.ErrNone)
	}
}

// firstLitBy goes along all the ways, one after the other.
func firstLitBy(h api.ScanHead, stops []api.ScanStop) (int, api.ScanDirection, api.Errno) {
	at := h.Home
	for i, x := range stops {
		for _, d := range wayBy(at, x.Direction) {
			if reservedBy(h, d) {
				return i, d, api.OK
			}
		}
		at = x.Direction
	}
	return 0, api.ScanDirection{}, api.ErrNone
}

// P3.10
func TestNeverLit(t *testing.T) {
	d := draws{10}
	dark := 0
	for range 400 {
		h, l := d.head(d.from(0, 2)), d.program()
		stops := stopsBy(l)
		i, lit, e := scan.FirstLit(h, l)
		index, want, wanted := firstLitBy(h, stops)
		if i != index || lit != want || e != wanted {
			t.Fatal(h, scan.FormatSteps(l), i, lit, e, index, want, wanted)
		}
		// A further sector that has none of the directions of the ways.
		further := h
		further.Reserved = append(slices.Clone(h.Reserved), sector(100, 200, 0, 90))
		if j, also, f := scan.FirstLit(further, l); j != i || also != lit || f != e {
			t.Fatal(further, scan.FormatSteps(l), j, also, f)
		}
		if e != api.ErrNone {
			continue
		}
		dark++
		at := h.Home
		for _, x := range stops {
			isDark, e := scan.IsDark(h, at, x.Direction)
			isReserved, f := scan.IsReserved(h, x.Direction)
			if !isDark || isReserved || e != api.OK || f != api.OK {
				t.Fatal(h, scan.FormatSteps(l), x)
			}
			at = x.Direction
		}
	}
	if dark < 50 || dark > 350 {
		t.Error("the programs are too alike:", dark)
	}
}

// P3.5
func TestUnmetBy(t *testing.T) {
	long := slices.Repeat([]api.ScanRequest{request(100, 0, 0)}, 10)
	for _, x := range []struct {
		steps    []api.ScanStep
		requests []api.ScanRequest
		want     []int
	}{
		{example(), []api.ScanRequest{request(12, 4, 2), request(45, 45, 5)}, []int{1}},
		{example(), nil, nil},
		{example(), long, []int{0, 1, 2, 3, 4, 5, 6, 7, 8, 9}},
		{example(), []api.ScanRequest{request(12, 4, 1), request(10, 5, 0), request(10, 7, 1), request(8, 3, 2)}, []int{0, 2}},
		// The shorter way round.
		{steps(point(359, 90, 0)), []api.ScanRequest{request(0, 90, 0), request(0, 90, 1), request(19, 70, 20), request(20, 90, 20), request(340, 90, 19), request(339, 90, 20), request(338, 90, 20)}, []int{0, 3, 6}},
		{steps(point(1, 0, 0)), []api.ScanRequest{request(359, 0, 2), request(359, 0, 1), request(341, 20, 20), request(341, 21, 20), request(181, 0, 20)}, []int{1, 3, 4}},
		// Home is no visit.
		{steps(point(90, 0, 0)), []api.ScanRequest{request(0, 0, 20)}, []int{0}},
	} {
		if l, e := scan.UnmetBy(head(), x.steps, x.requests); e != api.OK || !same(l, x.want) {
			t.Error(scan.FormatSteps(x.steps), x.requests, l, e)
		}
	}
}

// P3.5
func TestLongestGap(t *testing.T) {
	for _, x := range []struct {
		steps   []api.ScanStep
		request api.ScanRequest
		want    int
	}{
		{example(), request(12, 4, 2), 59},
		// Before the first visit, between visits, and after the last one.
		{example(), request(0, 90, 0), 70},
		{example(), request(0, 0, 0), 70},
		{example(), request(20, 5, 10), 45},
		{example(), request(30, 5, 10), 45},
		{steps(point(0, 0, 2), point(90, 0, 1), point(0, 0, 3)), request(0, 0, 0), 65},
		{steps(point(1, 0, 5)), request(1, 0, 0), 1},
		{steps(point(0, 0, 5)), request(0, 0, 0), 0},
		{steps(point(0, 0, 0)), request(0, 0, 20), 0},
		// A visit of 0 ticks ends a gap.
		{steps(point(90, 0, 1), point(0, 0, 0), point(90, 0, 9)), request(0, 0, 0), 65},
		{steps(point(1, 0, 50), point(2, 0, 0), point(3, 0, 60)), request(2, 0, 0), 61},
		{steps(point(359, 0, 50), point(2, 0, 1)), request(1, 1, 2), 3},
	} {
		if gap, e := scan.LongestGap(head(), x.steps, x.request); e != api.OK || gap != x.want {
			t.Error(scan.FormatSteps(x.steps), x.request, gap, e)
		}
	}
	for _, x := range []api.ScanRequest{request(45, 45, 5), request(0, 45, 20), request(12, 4, 1), request(180, 90, 20)} {
		gap, e := scan.LongestGap(head(), example(), x)
		expectOnly(t, "never met", gap, e, api.ErrNone)
	}
	gap, e := scan.LongestGap(head(), steps(point(90, 0, 0)), request(0, 0, 20))
	expectOnly(t, "home is no visit", gap, e, api.ErrNone)
}

// gapBy lists the visits that meet a request first.
func gapBy(h api.ScanHead, l []api.ScanStep, x api.ScanRequest) (int, bool) {
	visits := visitsBy(h, l)
	met := []api.Range{{}}
	for _, v := range visits {
		if meets(x, v.Direction) {
			met = append(met, v.Ticks)
		}
	}
	if len(met) == 1 {
		return 0, false
	}
	end := visits[len(visits)-1].Ticks.Hi
	met = append(met, api.Range{Lo: end, Hi: end})
	gap := 0
	for i, r := range met[1:] {
		gap = max(gap, r.Lo-met[i].Hi)
	}
	return gap, true
}

// P3.12
func TestGaps(t *testing.T) {
	d := draws{13}
	for range 300 {
		h, l := d.head(d.from(0, 1)), d.program()
		x := api.ScanRequest{Direction: d.near(), Tolerance: d.from(0, 19)}
		gap, e := scan.LongestGap(h, l, x)
		want, isMet := gapBy(h, l, x)
		if gap != want || isMet != (e == api.OK) || !isMet && e != api.ErrNone {
			t.Fatal(h, scan.FormatSteps(l), x, gap, e, want)
		}
		if unmet, e := scan.UnmetBy(h, l, []api.ScanRequest{x}); e != api.OK || len(unmet) == 0 != isMet {
			t.Fatal(h, scan.FormatSteps(l), x, unmet, e)
		}
		if !isMet {
			continue
		}
		if duration, e := scan.DurationOf(h, l); e != api.OK || gap > duration {
			t.Fatal(h, scan.FormatSteps(l), x, gap, duration, e)
		}
		x.Tolerance = d.from(x.Tolerance+1, 20)
		if more, e := scan.LongestGap(h, l, x); e != api.OK || more > gap {
			t.Fatal(h, scan.FormatSteps(l), x, gap, more, e)
		}
	}
}

// P3.12
func TestStopsMeetRequests(t *testing.T) {
	d := draws{14}
	for range 100 {
		h, l := d.head(0), d.program()
		var requests []api.ScanRequest
		for _, x := range stopsBy(l) {
			if len(requests) < api.MaxScanRequests {
				requests = append(requests, api.ScanRequest{Direction: x.Direction, Tolerance: d.from(0, 20)})
			}
		}
		if unmet, e := scan.UnmetBy(h, l, requests); e != api.OK || len(unmet) > 0 {
			t.Fatal(scan.FormatSteps(l), requests, unmet, e)
		}
	}
}

// P3.5
func TestRunErrors(t *testing.T) {
	check := func(h api.ScanHead, l []api.ScanStep, x api.ScanRequest, want api.Errno) {
		t.Helper()
		visits, e := scan.VisitsOf(h, l)
		expectOnly(t, "visits", visits, e, want)
		duration, e := scan.DurationOf(h, l)
		expectOnly(t, "duration", duration, e, want)
		i, d, e := scan.FirstLit(h, l)
		expectOnly(t, "lit", i, e, want)
		expectOnly(t, "lit", d, e, want)
		unmet, e := scan.UnmetBy(h, l, []api.ScanRequest{x})
		expectOnly(t, "unmet", unmet, e, want)
		gap, e := scan.LongestGap(h, l, x)
		expectOnly(t, "gap", gap, e, want)
	}
	for _, x := range badHeads() {
		check(x.head, nil, request(0, 0, -1), x.want)
		check(x.head, example(), request(0, 0, 0), x.want)
	}
	for _, x := range badPrograms() {
		check(head(), x.steps, request(0, 0, -1), x.want)
		check(head(sector(5, 5, 5, 5)), x.steps, request(0, 0, 20), x.want)
	}
	unmet, e := scan.UnmetBy(head(), nil, slices.Repeat(badRequests(), 2))
	expectOnly(t, "the program first", unmet, e, api.ErrShape)
}

// P3.5
func TestRequestErrors(t *testing.T) {
	for _, x := range badRequests() {
		gap, e := scan.LongestGap(head(), example(), x)
		expectOnly(t, "request", gap, e, api.ErrRange)
		for _, requests := range [][]api.ScanRequest{{x}, {request(0, 0, 20), request(180, 0, 0), x}} {
			unmet, e := scan.UnmetBy(head(), example(), requests)
			expectOnly(t, "requests", unmet, e, api.ErrRange)
		}
		for _, x := range []api.ScanRequest{x, request(0, 0, 0), request(180, 0, 0)} {
			unmet, e := scan.UnmetBy(head(), example(), slices.Repeat([]api.ScanRequest{x}, 11))
			expectOnly(t, "too many", unmet, e, api.ErrLarge)
		}
	}
}
