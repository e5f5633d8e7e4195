package wind

import (
	"slices"

	"glidepath/api"
)

// CheckProfile returns the error of a profile, with the index of the layer that it concerns.
func CheckProfile(l []api.WindLayer) (int, api.Errno) {
	orderError := ascending()
	return listError(l, api.MaxWindLayers, func(x api.WindLayer) api.Errno {
		return firstError(heightError(x.Height), boxError(x.Wind), orderError(x.Height))
	})
}

// WindAt returns the wind at a height of a profile.
func WindAt(l []api.WindLayer, height int) (api.WindBox, api.Errno) {
	if e := firstError(profileError(l), heightError(height)); e != api.OK {
		return api.WindBox{}, e
	}
	return windAt(l, height)
}

// ChangeIn returns the change of the wind from the lower end of a range of heights to the upper one.
func ChangeIn(l []api.WindLayer, heights api.Range) (api.WindBox, api.Errno) {
	e := firstError(
		profileError(l),
		heightError(heights.Lo),
		heightError(heights.Hi),
		errorIf(heights.Lo > heights.Hi, api.ErrOrder),
	)
	if e != api.OK {
		return api.WindBox{}, e
	}
	lower, lowerError := windAt(l, heights.Lo)
	upper, upperError := windAt(l, heights.Hi)
	if e := firstError(lowerError, upperError); e != api.OK {
		return api.WindBox{}, e
	}
	return boxBy(lower, upper, change), api.OK
}

func profileError(l []api.WindLayer) api.Errno {
	_, e := CheckProfile(l)
	return e
}

func heightError(height int) api.Errno {
	return rangeError(height, 0, api.MaxWindHeight)
}

func boxError(x api.WindBox) api.Errno {
	return firstError(
		endsError(x.X, api.MaxWindSpeed),
		endsError(x.Y, api.MaxWindSpeed),
		endsError(x.Z, api.MaxWindSpeed),
	)
}

// windAt expects a profile without errors.
func windAt(l []api.WindLayer, height int) (api.WindBox, api.Errno) {
	above := slices.IndexFunc(l, func(x api.WindLayer) bool { return x.Height >= height })
	if above < 0 {
		return api.WindBox{}, api.ErrMissing
	}
	if l[above].Height == height {
		return l[above].Wind, api.OK
	}
	if above == 0 {
		return api.WindBox{}, api.ErrMissing
	}
	return between(l[above-1], l[above], height), api.OK
}

func between(lower, upper api.WindLayer, height int) api.WindBox {
	up, down, whole := height-lower.Height, upper.Height-height, upper.Height-lower.Height
	return boxBy(lower.Wind, upper.Wind, func(a, b api.Range) api.Range {
		return api.Range{
			Lo: roundedDown(a.Lo*down+b.Lo*up, whole),
			Hi: roundedUp(a.Hi*down+b.Hi*up, whole),
		}
	})
}

func boxBy(a, b api.WindBox, rangeOf func(a, b api.Range) api.Range) api.WindBox {
	return api.WindBox{X: rangeOf(a.X, b.X), Y: rangeOf(a.Y, b.Y), Z: rangeOf(a.Z, b.Z)}
}

// change returns the range of all differences of a number of the second range and one of the first.
func change(from, to api.Range) api.Range {
	return api.Range{Lo: to.Lo - from.Hi, Hi: to.Hi - from.Lo}
}
