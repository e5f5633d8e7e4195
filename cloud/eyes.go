package cloud

import (
	"slices"
	"sort"

	"glidepath/api"
)

// ExposureOf returns the greatest energy in so many neighbouring seconds.
func ExposureOf(l []api.CloudShot, window int) (int, api.Errno) {
	if e := firstError(shotsError(l), windowError(window)); e != api.OK {
		return 0, e
	}
	most := 0
	for _, turn := range turnsOf(l, window) {
		most = max(most, energyBefore(l, turn, window))
	}
	return most, api.OK
}

// UnsafeAt returns the first second with which the energy in a window is too great.
func UnsafeAt(l []api.CloudShot, x api.CloudSafety) (int, api.Errno) {
	if e := firstError(
		shotsError(l),
		windowError(x.Window),
		rangeError(x.Energy, 0, api.MaxCloudEnergy),
	); e != api.OK {
		return 0, e
	}
	isUnsafe := func(end int) bool { return energyBefore(l, end, x.Window) > x.Energy }
	turns := turnsOf(l, x.Window)
	i := slices.IndexFunc(turns, isUnsafe)
	// Before the first turn nothing is sent.
	if i < 1 {
		return 0, api.ErrNone
	}
	from := turns[i-1]
	return from + sort.Search(turns[i]-from, func(n int) bool { return isUnsafe(from + n + 1) }), api.OK
}

func shotsError(l []api.CloudShot) api.Errno {
	_, e := listError(l, api.MaxCloudShots, func(_ []api.CloudShot, x api.CloudShot) api.Errno {
		return firstError(
			rangeError(x.From, 0, api.MaxCloudTime),
			rangeError(x.To, 0, api.MaxCloudTime),
			rangeError(x.Power, 0, api.MaxCloudPower),
			errorIf(x.From >= x.To, api.ErrOrder),
		)
	})
	return e
}

// energyBefore returns the energy in the window whose last second is the one before end.
func energyBefore(l []api.CloudShot, end, window int) int {
	energy := 0
	for _, x := range l {
		seconds := min(x.To, end) - max(x.From, end-window)
		energy += x.Power * max(0, seconds)
	}
	return energy
}

// turnsOf returns the ends of windows, ascending, between which the energy in the window rises or
// falls evenly: the greatest energy is at one of them, and between two of them it is found by
// halving.
func turnsOf(l []api.CloudShot, window int) []int {
	var turns []int
	for _, x := range l {
		turns = append(turns, x.From, x.To, x.From+window, x.To+window)
	}
	slices.Sort(turns)
	return turns
}
