package wake_test

import (
	"math"
	"reflect"
	"slices"
	"testing"

	"glidepath/api"
	"glidepath/wake"
)

// costsOf is the link matrix by its definition.
func costsOf(before, after []api.WakeVortex, miss int) [][]int {
	n, m := len(before), len(after)
	var costs [][]int
	for i := range n + m {
		var row []int
		for j := range n + m {
			cost := 0
			if i < n && j < m {
				v, w := before[i], after[j]
				y, z, off := v.At.Y-w.At.Y, v.At.Z-w.At.Z, v.Strength-w.Strength
				cost = y*y + z*z + max(off, -off)
			}
			if i < n && j >= m || i >= n && j < m {
				cost = miss
			}
			row = append(row, cost)
		}
		costs = append(costs, row)
	}
	return costs
}

// linksIn are the links by their definition.
func linksIn(before, after []api.WakeVortex, miss int) []int {
	assigned, _ := firstCheapest(costsOf(before, after, miss))
	var links []int
	for _, column := range assigned[:len(before)] {
		if column >= len(after) {
			column = -1
		}
		links = append(links, column)
	}
	return links
}

// tracksIn gives each vortex to the track of the one that is linked with it.
func tracksIn(scans [][]api.WakeVortex, miss int) [][][2]int {
	var tracks [][][2]int
	var trackOf []int
	for k, scan := range scans {
		next := slices.Repeat([]int{-1}, len(scan))
		if k > 0 {
			for i, link := range linksIn(scans[k-1], scan, miss) {
				if link >= 0 {
					next[link] = trackOf[i]
				}
			}
		}
		for i := range scan {
			if next[i] < 0 {
				next[i] = len(tracks)
				tracks = append(tracks, nil)
			}
			tracks[next[i]] = append(tracks[next[i]], [2]int{k, i})
		}
		trackOf = next
	}
	return tracks
}

// P6.4, example 5
func TestLinksExample(t *testing.T) {
	before, after := []api.WakeVortex{vortex(0, 10, 10)}, []api.WakeVortex{vortex(2, 9, 8)}
	for _, c := range []struct {
		miss  int
		costs [][]int
		links []int
	}{
		{5, [][]int{{7, 5}, {5, 0}}, []int{0}},
		{3, [][]int{{7, 3}, {3, 0}}, []int{-1}},
		{4, [][]int{{7, 4}, {4, 0}}, []int{0}},
		{0, [][]int{{7, 0}, {0, 0}}, []int{-1}},
		{10000000, [][]int{{7, 10000000}, {10000000, 0}}, []int{0}},
	} {
		if got, e := wake.LinkCosts(before, after, c.miss); !same(got, c.costs) || e != api.OK {
			t.Errorf("the miss %d: %v, %d, want %v", c.miss, got, e, c.costs)
		}
		if got, e := wake.LinksOf(before, after, c.miss); !same(got, c.links) || e != api.OK {
			t.Errorf("the miss %d: %v, %d, want %v", c.miss, got, e, c.links)
		}
	}
}

// P6.4: without vortices before, after, or of both.
func TestLinksOfNothing(t *testing.T) {
	two := []api.WakeVortex{vortex(0, 10, 10), vortex(5, 10, 10)}
	for _, c := range []struct {
		before, after []api.WakeVortex
		costs         [][]int
		links         []int
	}{
		{nil, nil, nil, nil},
		{[]api.WakeVortex{}, nil, nil, nil},
		{two, nil, [][]int{{5, 5}, {5, 5}}, []int{-1, -1}},
		{nil, two, [][]int{{5, 5}, {5, 5}}, nil},
		{two, two[1:], [][]int{{25, 5, 5}, {0, 5, 5}, {5, 0, 0}}, []int{-1, 0}},
		{two[1:], two, [][]int{{25, 0, 5}, {5, 5, 0}, {5, 5, 0}}, []int{1}},
	} {
		if got, e := wake.LinkCosts(c.before, c.after, 5); !same(got, c.costs) || e != api.OK {
			t.Errorf("%v, %v: %v, %d, want %v", c.before, c.after, got, e, c.costs)
		}
		if got, e := wake.LinksOf(c.before, c.after, 5); !same(got, c.links) || e != api.OK {
			t.Errorf("%v, %v: %v, %d, want %v", c.before, c.after, got, e, c.links)
		}
	}
}

// P6.4, edge case: a miss of 0 links none but equal ones, and those only in the lexicographically first assignment.
func TestLinksOfMissZero(t *testing.T) {
	v, w := vortex(0, 10, 10), vortex(5, 10, 10)
	for _, c := range []struct {
		before, after []api.WakeVortex
		want          []int
	}{
		{[]api.WakeVortex{v}, []api.WakeVortex{v}, []int{0}},
		{[]api.WakeVortex{v}, []api.WakeVortex{w}, []int{-1}},
		{[]api.WakeVortex{v}, []api.WakeVortex{vortex(0, 10, 9)}, []int{-1}},
		{[]api.WakeVortex{v, v}, []api.WakeVortex{v}, []int{0, -1}},
		{[]api.WakeVortex{v}, []api.WakeVortex{v, v}, []int{0}},
		{[]api.WakeVortex{v, w}, []api.WakeVortex{w, v}, []int{1, 0}},
		{[]api.WakeVortex{v, w}, []api.WakeVortex{w, w}, []int{-1, 0}},
		{[]api.WakeVortex{v, v, v}, []api.WakeVortex{v, v, v}, []int{0, 1, 2}},
	} {
		if got, e := wake.LinksOf(c.before, c.after, 0); !same(got, c.want) || e != api.OK {
			t.Errorf("%v, %v: %v, %d, want %v", c.before, c.after, got, e, c.want)
		}
	}
}

// P6.4, P6.11: two vortices are linked with different ones.
func TestLinksByDefinition(t *testing.T) {
	draw := &draws{69}
	for i := range 600 {
		most := []int{1, 3, 10, 1000}[i%4]
		before, after, miss := draw.scan(most, most), draw.scan(most, most), draw.from(0, most*most)
		costs, e := wake.LinkCosts(before, after, miss)
		if want := costsOf(before, after, miss); !same(costs, want) || e != api.OK {
			t.Fatalf("%v, %v, %d: %v, %d, want %v", before, after, miss, costs, e, want)
		}
		links, e := wake.LinksOf(before, after, miss)
		if want := linksIn(before, after, miss); !same(links, want) || e != api.OK {
			t.Fatalf("%v, %v, %d: %v, %d, want %v", before, after, miss, links, e, want)
		}
		for i, link := range links {
			if link >= 0 && slices.Contains(links[:i], link) {
				t.Fatalf("%v, %v, %d: %v links two with one", before, after, miss, links)
			}
		}
	}
}

// P6.4: the costs of the vortices that are farthest apart are those of a matrix.
func TestLinkCostsEnds(t *testing.T) {
	before := []api.WakeVortex{vortex(-1000, 0, -10000), vortex(1000, 1000, 10000)}
	after := []api.WakeVortex{vortex(1000, 1000, 10000), vortex(-1000, 0, -10000)}
	want := [][]int{
		{5020000, 0, 10000000, 10000000}, {0, 5020000, 10000000, 10000000},
		{10000000, 10000000, 0, 0}, {10000000, 10000000, 0, 0},
	}
	got, e := wake.LinkCosts(before, after, 10000000)
	if !same(got, want) || e != api.OK {
		t.Errorf("%v, %d, want %v", got, e, want)
	}
	if i, e := wake.CheckMatrix(got); i != 0 || e != api.OK {
		t.Errorf("%v is no matrix: %d, %d", got, i, e)
	}
}

// P6.11: vortices that stay are linked with themselves if all others are farther away than the miss permits.
func TestLinksOfStaying(t *testing.T) {
	draw := &draws{70}
	for range 200 {
		l := []api.WakeVortex{vortex(draw.from(-9, 9), draw.from(0, 9), 5), vortex(draw.from(100, 109), 0, 5), vortex(0, draw.from(100, 109), 5)}
		l = l[:draw.from(0, 3)]
		links, e := wake.LinksOf(l, l, draw.from(1, 2000))
		if !same(links, []int{0, 1, 2}[:len(l)]) || e != api.OK {
			t.Fatalf("%v: %v, %d", l, links, e)
		}
	}
}

// P6.4, example 6
func TestTracksExample(t *testing.T) {
	scans := [][]api.WakeVortex{
		{vortex(0, 10, 10)},
		{vortex(2, 9, 8), vortex(50, 50, 5)},
		{vortex(51, 49, 5)},
	}
	for _, c := range []struct {
		scans [][]api.WakeVortex
		miss  int
		want  [][][2]int
	}{
		{scans, 5, [][][2]int{{{0, 0}, {1, 0}}, {{1, 1}, {2, 0}}}},
		{scans, 3, [][][2]int{{{0, 0}}, {{1, 0}}, {{1, 1}, {2, 0}}}},
		{scans, 0, [][][2]int{{{0, 0}}, {{1, 0}}, {{1, 1}}, {{2, 0}}}},
		{nil, 0, nil},
		{[][]api.WakeVortex{nil, {}, nil}, 10000000, nil},
		{[][]api.WakeVortex{nil, {vortex(0, 0, 0)}, nil, {vortex(0, 0, 0)}}, 10000000, [][][2]int{{{1, 0}}, {{3, 0}}}},
		// A track that goes on begins before those that begin later, whatever the index is.
		{
			[][]api.WakeVortex{{vortex(9, 9, 0)}, {vortex(90, 9, 0), vortex(9, 9, 0)}, {vortex(90, 90, 0), vortex(90, 9, 0), vortex(9, 9, 0)}},
			1,
			[][][2]int{{{0, 0}, {1, 1}, {2, 2}}, {{1, 0}, {2, 1}}, {{2, 0}}},
		},
	} {
		if got, e := wake.TracksOf(c.scans, c.miss); !same(got, c.want) || e != api.OK {
			t.Errorf("%v, %d: %v, %d, want %v", c.scans, c.miss, got, e, c.want)
		}
	}
}

// P6.4, P6.11: each vortex of each scan is in exactly one track.
func TestTracksByDefinition(t *testing.T) {
	draw := &draws{71}
	for i := range 200 {
		most := []int{1, 2, 5, 1000}[i%4]
		scans := make([][]api.WakeVortex, i%7)
		count := 0
		for k := range scans {
			scans[k] = draw.scan(most, most)
			count += len(scans[k])
		}
		miss := draw.from(0, most*most)
		got, e := wake.TracksOf(scans, miss)
		if want := tracksIn(scans, miss); !same(got, want) || e != api.OK {
			t.Fatalf("%v, %d: %v, %d, want %v", scans, miss, got, e, want)
		}
		found := map[[2]int]bool{}
		for _, track := range got {
			for _, x := range track {
				if found[x] || x[1] < 0 || x[1] >= len(scans[x[0]]) {
					t.Fatalf("%v, %d: %v in %v", scans, miss, x, got)
				}
				found[x] = true
			}
		}
		if len(found) != count {
			t.Fatalf("%v, %d: %v has %d vortices, want %d", scans, miss, got, len(found), count)
		}
	}
}

// P6.4: the errors of the vortices before, of those after, and of the miss.
func TestLinkErrors(t *testing.T) {
	good := []api.WakeVortex{vortex(-1000, 0, -10000), vortex(1000, 1000, 10000), vortex(0, 0, 0)}
	others := []bad[[]api.WakeVortex]{{[]api.WakeVortex{vortex(0, -1, 0)}, 0, api.ErrRange}, {make([]api.WakeVortex, 4), 0, api.ErrLarge}}
	both := func(before, after []api.WakeVortex, miss int, want api.Errno) {
		t.Helper()
		costs, e := wake.LinkCosts(before, after, miss)
		expectOnly(t, "LinkCosts", costs, e, want)
		links, e := wake.LinksOf(before, after, miss)
		expectOnly(t, "LinksOf", links, e, want)
	}
	for _, x := range badScans() {
		both(x.value, good, 1, x.want)
		both(good, x.value, -1, x.want)
		for _, y := range others {
			both(x.value, y.value, -1, x.want)
		}
	}
	for _, miss := range beyond(0, 10000000) {
		both(good, good, miss, api.ErrRange)
		both(nil, nil, miss, api.ErrRange)
	}
}

// P6.4: the errors of the scans, and of the miss.
func TestTracksErrors(t *testing.T) {
	good := []api.WakeVortex{vortex(-1000, 0, -10000), vortex(1000, 1000, 10000), vortex(0, 0, 0)}
	reject := func(scans [][]api.WakeVortex, miss int, want api.Errno) {
		t.Helper()
		got, e := wake.TracksOf(scans, miss)
		expectOnly(t, "TracksOf", got, e, want)
	}
	reject(make([][]api.WakeVortex, 7), 1, api.ErrLarge)
	reject(slices.Repeat([][]api.WakeVortex{{vortex(0, -1, 0)}}, 7), -1, api.ErrLarge)
	for _, x := range badScans() {
		reject([][]api.WakeVortex{x.value}, 1, x.want)
		reject([][]api.WakeVortex{good, nil, x.value, {vortex(0, -1, 0)}}, -1, x.want)
		reject([][]api.WakeVortex{good, good, good, good, good, x.value}, -1, x.want)
		reject([][]api.WakeVortex{x.value, make([]api.WakeVortex, 4)}, 1, x.want)
	}
	for _, miss := range beyond(0, 10000000) {
		reject([][]api.WakeVortex{good}, miss, api.ErrRange)
		reject(nil, miss, api.ErrRange)
	}
	for _, miss := range []int{0, 10000000} {
		_, e := wake.TracksOf([][]api.WakeVortex{good, good, good, good, good, good}, miss)
		expect(t, "six scans", e, api.OK)
	}
	reject([][]api.WakeVortex{{vortex(math.MinInt, math.MinInt, math.MinInt)}, {vortex(math.MaxInt, math.MaxInt, math.MaxInt)}}, math.MinInt, api.ErrRange)
}

// R3, R4
func TestTracksMemory(t *testing.T) {
	l := []api.WakeVortex{vortex(9, 9, 0), vortex(90, 9, 0)}
	scans := [][]api.WakeVortex{l, slices.Clone(l), {l[1], l[0], vortex(0, 0, 3)}}
	kept := [][]api.WakeVortex{slices.Clone(l), slices.Clone(l), slices.Clone(scans[2])}
	tracks, _ := wake.TracksOf(scans, 5)
	costs, _ := wake.LinkCosts(l, l, 5)
	links, _ := wake.LinksOf(l, l, 5)
	want := [][][2]int{{{0, 0}, {1, 0}, {2, 1}}, {{0, 1}, {1, 1}, {2, 0}}, {{2, 2}}}
	if !same(tracks, want) {
		t.Fatalf("%v, want %v", tracks, want)
	}
	for i := range tracks {
		_ = append(tracks[i], [2]int{-7, -7})
		tracks[i][0] = [2]int{-7, -7}
	}
	if tracks[0][1] != [2]int{1, 0} || tracks[1][1] != [2]int{1, 1} || len(tracks[2]) != 1 {
		t.Errorf("two tracks share memory: %v", tracks)
	}
	for i := range costs {
		_ = append(costs[i], -7)
		costs[i][0] = -7
	}
	if costs[0][1] < 0 || costs[1][1] < 0 {
		t.Errorf("two rows share memory: %v", costs)
	}
	links[0] = -7
	if !reflect.DeepEqual(scans, kept) {
		t.Errorf("%v was changed to %v", kept, scans)
	}
	if again, _ := wake.TracksOf(scans, 5); !same(again, want) {
		t.Errorf("the second time: %v, want %v", again, want)
	}
}
