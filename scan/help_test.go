package scan_test

import (
	"math"
	"reflect"
	"slices"
	"testing"

	"glidepath/api"
)

// draws is a short rule for values that look arbitrary and are the same in every run.
type draws struct{ state uint64 }

func (d *draws) from(least, most int) int {
	d.state = d.state*6364136223846793005 + 1442695040888963407
	return least + int(d.state>>33)%(most-least+1)
}

func (d *draws) axis() api.ScanAxis { return axis(d.from(1, 30), d.from(1, 30)) }

func (d *draws) direction() api.ScanDirection { return dir(d.from(0, 359), d.from(0, 90)) }

// near is a direction on both sides of the azimuth 0, so that directions meet often.
func (d *draws) near() api.ScanDirection { return dir(d.from(345, 375)%360, d.from(0, 15)) }

func (d *draws) sector() api.ScanSector {
	low := d.from(0, 15)
	first := d.from(345, 375)
	return sector(first%360, (first+d.from(0, 6))%360, low, low+d.from(0, 6))
}

// head has no sector with its home.
func (d *draws) head(sectors int) api.ScanHead {
	h := api.ScanHead{Home: d.near(), Azimuth: d.axis(), Elevation: d.axis()}
	for len(h.Reserved) < sectors {
		if s := d.sector(); !has(s, h.Home) {
			h.Reserved = append(h.Reserved, s)
		}
	}
	return h
}

func (d *draws) steps(repeats int) []api.ScanStep {
	l := make([]api.ScanStep, d.from(1, 3))
	for i := range l {
		at := d.near()
		switch d.from(0, api.ScanKinds-1) {
		case api.ScanPoint:
			l[i] = point(at.Azimuth, at.Elevation, d.from(0, 9))
		case api.ScanSweep:
			by := d.from(1, 20)
			l[i] = sweep(at.Azimuth, (at.Azimuth+d.from(0, 4*by))%360, by, at.Elevation, d.from(0, 9))
		default:
			if repeats == api.MaxScanDepth {
				l[i] = point(at.Azimuth, at.Elevation, 0)
			} else {
				l[i] = repeat(d.from(1, 3), d.steps(repeats+1)...)
			}
		}
	}
	return l
}

// program has no errors.
func (d *draws) program() []api.ScanStep {
	for {
		if l := d.steps(0); len(stopsBy(l)) <= api.MaxScanStops {
			return l
		}
	}
}

func (d *draws) directions(count int) []api.ScanDirection {
	l := make([]api.ScanDirection, count)
	for i := range l {
		l[i] = d.near()
	}
	return l
}

func axis(rate, acceleration int) api.ScanAxis {
	return api.ScanAxis{Rate: rate, Acceleration: acceleration}
}

func dir(azimuth, elevation int) api.ScanDirection {
	return api.ScanDirection{Azimuth: azimuth, Elevation: elevation}
}

func sector(first, last, low, high int) api.ScanSector {
	return api.ScanSector{Azimuth: api.Range{Lo: first, Hi: last}, Elevation: api.Range{Lo: low, Hi: high}}
}

func point(azimuth, elevation, ticks int) api.ScanStep {
	return api.ScanStep{Kind: api.ScanPoint, Direction: dir(azimuth, elevation), Ticks: ticks}
}

func sweep(azimuth, to, by, elevation, ticks int) api.ScanStep {
	return api.ScanStep{Kind: api.ScanSweep, Direction: dir(azimuth, elevation), To: to, By: by, Ticks: ticks}
}

func repeat(times int, body ...api.ScanStep) api.ScanStep {
	return api.ScanStep{Kind: api.ScanRepeat, Times: times, Body: body}
}

func steps(l ...api.ScanStep) []api.ScanStep { return l }

func stop(azimuth, elevation, ticks int) api.ScanStop {
	return api.ScanStop{Direction: dir(azimuth, elevation), Ticks: ticks}
}

func visit(azimuth, elevation, arrival, departure int) api.ScanVisit {
	return api.ScanVisit{Direction: dir(azimuth, elevation), Ticks: api.Range{Lo: arrival, Hi: departure}}
}

func request(azimuth, elevation, tolerance int) api.ScanRequest {
	return api.ScanRequest{Direction: dir(azimuth, elevation), Tolerance: tolerance}
}

// head is that of the examples, with sectors.
func head(sectors ...api.ScanSector) api.ScanHead {
	return api.ScanHead{Azimuth: axis(3, 1), Elevation: axis(3, 1), Reserved: sectors}
}

// example is the program p of the examples.
func example() []api.ScanStep {
	return steps(point(0, 0, 2), sweep(10, 30, 10, 5, 1), repeat(2, point(0, 90, 1)))
}

// reachBy is the reach as the chapter defines it.
func reachBy(a api.ScanAxis, ticks int) int {
	sum := 0
	for k := 1; k <= ticks; k++ {
		sum += min(a.Rate, k*a.Acceleration, (ticks+1-k)*a.Acceleration)
	}
	return sum
}

// ticksBy tries one number of ticks after the other.
func ticksBy(a api.ScanAxis, distance int) int {
	ticks := 0
	for reachBy(a, ticks) < distance {
		ticks++
	}
	return ticks
}

// stopsBy goes upwards by single steps of azimuth.
func stopsBy(l []api.ScanStep) []api.ScanStop {
	var stops []api.ScanStop
	for _, x := range l {
		switch x.Kind {
		case api.ScanPoint:
			stops = append(stops, api.ScanStop{Direction: x.Direction, Ticks: x.Ticks})
		case api.ScanSweep:
			azimuth := x.Direction.Azimuth
			for steps := 0; ; steps++ {
				if steps%x.By == 0 {
					stops = append(stops, stop(azimuth, x.Direction.Elevation, x.Ticks))
				}
				if azimuth == x.To {
					break
				}
				azimuth = (azimuth + 1) % 360
			}
		default:
			for range x.Times {
				stops = append(stops, stopsBy(x.Body)...)
			}
		}
	}
	return stops
}

// has goes upwards by single steps of azimuth.
func has(s api.ScanSector, d api.ScanDirection) bool {
	if d.Elevation < s.Elevation.Lo || d.Elevation > s.Elevation.Hi {
		return false
	}
	azimuth := s.Azimuth.Lo
	for azimuth != d.Azimuth && azimuth != s.Azimuth.Hi {
		azimuth = (azimuth + 1) % 360
	}
	return azimuth == d.Azimuth
}

func reservedBy(h api.ScanHead, d api.ScanDirection) bool {
	for _, s := range h.Reserved {
		if has(s, d) {
			return true
		}
	}
	return false
}

// wayBy first writes down the azimuths in both directions.
func wayBy(a, b api.ScanDirection) []api.ScanDirection {
	up, down := []int{a.Azimuth}, []int{a.Azimuth}
	for up[len(up)-1] != b.Azimuth {
		up = append(up, (up[len(up)-1]+1)%360)
	}
	for down[len(down)-1] != b.Azimuth {
		down = append(down, (down[len(down)-1]+359)%360)
	}
	if len(down) < len(up) {
		up = down
	}
	var way []api.ScanDirection
	for _, azimuth := range up {
		way = append(way, dir(azimuth, a.Elevation))
	}
	for e := a.Elevation + 1; e <= b.Elevation; e++ {
		way = append(way, dir(b.Azimuth, e))
	}
	for e := a.Elevation - 1; e >= b.Elevation; e-- {
		way = append(way, dir(b.Azimuth, e))
	}
	return way
}

func darkBy(h api.ScanHead, a, b api.ScanDirection) bool {
	for _, d := range wayBy(a, b) {
		if reservedBy(h, d) {
			return false
		}
	}
	return true
}

func apart(a, b api.ScanDirection) (turn, lift int) {
	turn = max(a.Azimuth-b.Azimuth, b.Azimuth-a.Azimuth)
	return min(turn, 360-turn), max(a.Elevation-b.Elevation, b.Elevation-a.Elevation)
}

func moveBy(h api.ScanHead, a, b api.ScanDirection) int {
	turn, lift := apart(a, b)
	return ticksBy(h.Azimuth, turn) + ticksBy(h.Elevation, lift)
}

func visitsBy(h api.ScanHead, l []api.ScanStep) []api.ScanVisit {
	var visits []api.ScanVisit
	at, tick := h.Home, 0
	for _, x := range stopsBy(l) {
		tick += moveBy(h, at, x.Direction)
		visits = append(visits, api.ScanVisit{Direction: x.Direction, Ticks: api.Range{Lo: tick, Hi: tick + x.Ticks}})
		at, tick = x.Direction, tick+x.Ticks
	}
	return visits
}

func meets(x api.ScanRequest, d api.ScanDirection) bool {
	turn, lift := apart(x.Direction, d)
	return turn <= x.Tolerance && lift <= x.Tolerance
}

// badAxes are drives with the error ErrRange.
var badAxes = []api.ScanAxis{
	{}, axis(0, 1), axis(31, 1), axis(1, 0), axis(1, 31), axis(-1, 1), axis(1, -1),
	axis(math.MinInt, 1), axis(math.MaxInt, 1), axis(1, math.MinInt), axis(1, math.MaxInt),
}

// badDirections are directions with the error ErrRange.
var badDirections = []api.ScanDirection{
	dir(-1, 0), dir(360, 0), dir(0, -1), dir(0, 91),
	dir(math.MinInt, 0), dir(math.MaxInt, 0), dir(0, math.MinInt), dir(0, math.MaxInt),
}

type badHead struct {
	head  api.ScanHead
	index int
	want  api.Errno
}

// badHeads are heads with their errors; most have errors that are listed later, too, which must not count.
func badHeads() []badHead {
	lit, upsideDown, outside := sector(0, 0, 0, 0), sector(5, 6, 3, 2), sector(-1, 0, 0, 0)
	var bad []badHead
	add := func(index int, want api.Errno, change func(h *api.ScanHead)) {
		h := head()
		change(&h)
		bad = append(bad, badHead{h, index, want})
	}
	seven := slices.Repeat([]api.ScanSector{outside}, 7)
	for _, d := range badDirections {
		add(0, api.ErrRange, func(h *api.ScanHead) { h.Home = d })
		add(0, api.ErrRange, func(h *api.ScanHead) { h.Home, h.Reserved = d, seven })
	}
	for _, a := range badAxes {
		add(0, api.ErrRange, func(h *api.ScanHead) { h.Azimuth = a })
		add(0, api.ErrRange, func(h *api.ScanHead) { h.Elevation = a })
		add(0, api.ErrRange, func(h *api.ScanHead) { h.Azimuth, h.Reserved = a, seven })
		add(0, api.ErrRange, func(h *api.ScanHead) { h.Elevation, h.Reserved = a, seven })
	}
	add(0, api.ErrRange, func(h *api.ScanHead) { *h = api.ScanHead{} })
	for _, s := range [][]api.ScanSector{seven, slices.Repeat([]api.ScanSector{sector(5, 5, 5, 5)}, 7), slices.Repeat([]api.ScanSector{lit}, 7)} {
		add(0, api.ErrLarge, func(h *api.ScanHead) { h.Reserved = s })
	}
	for _, s := range []api.ScanSector{
		outside, sector(360, 0, 1, 1), sector(0, -1, 1, 1), sector(0, 360, 1, 1),
		sector(0, 0, -1, 1), sector(0, 0, 91, 91), sector(0, 0, -1, -1), sector(0, 0, 0, 91), sector(0, 0, 5, -1), sector(0, 0, 91, 0),
		sector(math.MinInt, 0, 0, 0), sector(0, math.MaxInt, 0, 0), sector(0, 0, math.MinInt, 0), sector(0, 0, 0, math.MaxInt),
		sector(-1, 0, 3, 2), sector(0, 360, 3, 2),
	} {
		add(0, api.ErrRange, func(h *api.ScanHead) { h.Reserved = []api.ScanSector{s, upsideDown} })
		add(2, api.ErrRange, func(h *api.ScanHead) { h.Reserved = []api.ScanSector{lit, lit, s, upsideDown} })
	}
	add(0, api.ErrOrder, func(h *api.ScanHead) { h.Reserved = []api.ScanSector{upsideDown, outside} })
	add(1, api.ErrOrder, func(h *api.ScanHead) { h.Reserved = []api.ScanSector{lit, sector(0, 0, 90, 89), outside} })
	for _, s := range []api.ScanSector{lit, sector(0, 359, 0, 90), sector(350, 0, 0, 0), sector(350, 10, 0, 5), sector(0, 10, 0, 0)} {
		add(0, api.ErrRefused, func(h *api.ScanHead) { h.Reserved = []api.ScanSector{s} })
		add(0, api.ErrRefused, func(h *api.ScanHead) { h.Reserved = []api.ScanSector{sector(5, 6, 0, 90), s} })
	}
	return bad
}

// badRequests are requests with the error ErrRange.
func badRequests() []api.ScanRequest {
	l := []api.ScanRequest{request(0, 0, -1), request(0, 0, 21), request(0, 0, math.MinInt), request(0, 0, math.MaxInt)}
	for _, d := range badDirections {
		l = append(l, api.ScanRequest{Direction: d})
	}
	return l
}

// same is for slices, of which nil and empty ones are the same.
func same[T any](a, b []T) bool {
	return len(a) == 0 && len(b) == 0 || reflect.DeepEqual(a, b)
}

func expect(t *testing.T, what string, got, want api.Errno) {
	t.Helper()
	if got != want {
		t.Errorf("%s: error %d, want %d", what, got, want)
	}
}

// expectOnly is for results with an error, which are zero.
func expectOnly(t *testing.T, what string, result any, got, want api.Errno) {
	t.Helper()
	expect(t, what, got, want)
	v := reflect.ValueOf(result)
	if v.Kind() == reflect.Slice && v.Len() == 0 {
		return
	}
	if !v.IsZero() {
		t.Errorf("%s: %v together with an error", what, result)
	}
}
