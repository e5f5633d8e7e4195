package wake

import (
	"slices"

	"glidepath/api"
)

// LinkCosts returns the matrix of costs for linking the vortices of two scans.
func LinkCosts(before, after []api.WakeVortex, miss int) ([][]int, api.Errno) {
	if e := linkError(before, after, miss); e != api.OK {
		return nil, e
	}
	return linkCosts(before, after, miss), api.OK
}

// LinksOf returns the index of the vortex after for each vortex before, -1 for one that is not linked.
func LinksOf(before, after []api.WakeVortex, miss int) ([]int, api.Errno) {
	if e := linkError(before, after, miss); e != api.OK {
		return nil, e
	}
	return linksOf(before, after, miss), api.OK
}

// TracksOf returns the tracks of scans, as pairs of a scan and the index in it.
func TracksOf(scans [][]api.WakeVortex, miss int) ([][][2]int, api.Errno) {
	_, wrong := listError(scans, api.MaxWakeScans, scanError)
	if e := firstError(wrong, costError(miss)); e != api.OK {
		return nil, e
	}
	var links [][]int
	for scan := 1; scan < len(scans); scan++ {
		links = append(links, linksOf(scans[scan-1], scans[scan], miss))
	}
	var tracks [][][2]int
	for scan, l := range scans {
		for i := range l {
			if scan == 0 || !slices.Contains(links[scan-1], i) {
				tracks = append(tracks, trackFrom(links, scan, i))
			}
		}
	}
	return tracks, api.OK
}

func scanError(l []api.WakeVortex) api.Errno {
	_, e := listError(l, api.MaxWakeVortices, vortexError)
	return e
}

func linkError(before, after []api.WakeVortex, miss int) api.Errno {
	return firstError(scanError(before), scanError(after), costError(miss))
}

func linkCosts(before, after []api.WakeVortex, miss int) [][]int {
	n, m := len(before), len(after)
	costs := make([][]int, n+m)
	for i := range costs {
		costs[i] = make([]int, n+m)
		for j := range costs[i] {
			switch {
			case i < n && j < m:
				costs[i][j] = apart(before[i], after[j])
			case i < n || j < m:
				costs[i][j] = miss
			}
		}
	}
	return costs
}

// apart is the cost of taking two vortices for the same one.
func apart(v, w api.WakeVortex) int {
	y, z := v.At.Y-w.At.Y, v.At.Z-w.At.Z
	return y*y + z*z + size(v.Strength-w.Strength)
}

func linksOf(before, after []api.WakeVortex, miss int) []int {
	assigned := cheapestOf(linkCosts(before, after, miss))
	links := assigned[:len(before)]
	for i, column := range links {
		if column >= len(after) {
			links[i] = -1
		}
	}
	return links
}

func trackFrom(links [][]int, scan, i int) [][2]int {
	track := [][2]int{{scan, i}}
	for scan < len(links) && links[scan][i] >= 0 {
		i = links[scan][i]
		scan++
		track = append(track, [2]int{scan, i})
	}
	return track
}
