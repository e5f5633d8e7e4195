package line

import "glidepath/api"

// SpeedAt returns the speed of a position.
func SpeedAt(x api.Frac, s api.LineScale) (api.Frac, api.Errno) {
	if e := firstError(fractionError(x), scaleError(s)); e != api.OK {
		return api.Frac{}, e
	}
	return within((x.Num-s.Zero*x.Den)*s.Width, x.Den*s.By)
}

// PositionOf returns the position with a speed.
func PositionOf(speed api.Frac, s api.LineScale) (api.Frac, api.Errno) {
	if e := firstError(fractionError(speed), scaleError(s)); e != api.OK {
		return api.Frac{}, e
	}
	return within(speed.Num*s.By+s.Zero*speed.Den*s.Width, speed.Den*s.Width)
}

func scaleError(s api.LineScale) api.Errno {
	return firstError(
		rangeError(s.Zero, 0, api.MaxLineLines-1),
		rangeError(s.Width, 1, api.MaxLineWidth),
		rangeError(s.By, 1, api.MaxLineWidth),
	)
}
