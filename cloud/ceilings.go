package cloud

import (
	"cmp"
	"slices"

	"glidepath/api"
)

// wholeSky is the eighths of all of it.
const wholeSky = 8

// CheckLayers returns the error of layers, with the index of the layer that it concerns.
func CheckLayers(l []api.CloudLayer) (int, api.Errno) {
	return listError(l, api.MaxCloudLayers, func(_ []api.CloudLayer, x api.CloudLayer) api.Errno {
		return firstError(
			rangeError(x.Base, 0, api.MaxCloudHeight),
			rangeError(x.Top, 0, api.MaxCloudHeight),
			rangeError(x.Eighths, 0, wholeSky),
			errorIf(x.Base >= x.Top, api.ErrOrder),
		)
	})
}

// CeilingOf returns the base of the layer up to which the layers cover so many eighths.
func CeilingOf(l []api.CloudLayer, eighths int) (int, api.Errno) {
	if e := firstError(layersError(l), rangeError(eighths, 1, wholeSky)); e != api.OK {
		return 0, e
	}
	ascending := slices.Clone(l)
	slices.SortStableFunc(ascending, func(a, b api.CloudLayer) int { return cmp.Compare(a.Base, b.Base) })
	covered := 0
	for _, x := range ascending {
		covered += x.Eighths
		if covered >= eighths {
			return x.Base, api.OK
		}
	}
	return 0, api.ErrNone
}

// MiddleOf returns the middle of numbers.
func MiddleOf(l []int) (int, api.Errno) {
	if _, e := filledError(l, api.MaxCloudBases, within(0, api.MaxCloudHeight)); e != api.OK {
		return 0, e
	}
	return middleOf(l), api.OK
}

func layersError(l []api.CloudLayer) api.Errno {
	_, e := CheckLayers(l)
	return e
}

// middleOf expects at least one number.
func middleOf(l []int) int {
	ascending := slices.Clone(l)
	slices.Sort(ascending)
	return ascending[(len(l)-1)/2]
}
