package cloud

import (
	"slices"

	"glidepath/api"
)

const maxThousandths = 1000

// CheckClasses returns the error of classes, with the index of the class that it concerns.
func CheckClasses(c []api.CloudClass) (int, api.Errno) {
	return filledError(c, api.MaxCloudClasses, func(_ []api.CloudClass, x api.CloudClass) api.Errno {
		return firstError(
			signalError(api.CloudSignal{Signal: x.Signals.Lo, Part: x.Parts.Lo}),
			signalError(api.CloudSignal{Signal: x.Signals.Hi, Part: x.Parts.Hi}),
			errorIf(x.Signals.Lo > x.Signals.Hi || x.Parts.Lo > x.Parts.Hi, api.ErrOrder),
		)
	})
}

// ClassOf returns the class of a signal.
func ClassOf(c []api.CloudClass, x api.CloudSignal) (int, api.Errno) {
	if e := firstError(classesError(c), signalError(x)); e != api.OK {
		return 0, e
	}
	class := classOf(c, x)
	if class < 0 {
		return 0, api.ErrNone
	}
	return class, api.OK
}

// IsSureClass says whether all signals that differ by at most an error have the class of a signal.
func IsSureClass(c []api.CloudClass, x api.CloudSignal, off int) (bool, api.Errno) {
	if e := firstError(
		classesError(c),
		signalError(x),
		rangeError(off, 0, api.MaxCloudOff),
		errorIf(classOf(c, x) < 0, api.ErrNone),
	); e != api.OK {
		return false, e
	}
	return isSure(c, x, off), api.OK
}

func classesError(c []api.CloudClass) api.Errno {
	_, e := CheckClasses(c)
	return e
}

func signalError(x api.CloudSignal) api.Errno {
	return firstError(
		rangeError(x.Signal, 0, api.MaxCloudSignal),
		rangeError(x.Part, 0, maxThousandths),
	)
}

// classOf returns a number below 0 if a signal has no class.
func classOf(c []api.CloudClass, x api.CloudSignal) int {
	return slices.IndexFunc(c, func(class api.CloudClass) bool {
		return isIn(class.Signals, x.Signal) && isIn(class.Parts, x.Part)
	})
}

func isIn(r api.Range, x int) bool {
	return x >= r.Lo && x <= r.Hi
}

// isSure looks at signals outside of the limits, too: they have no class.
func isSure(c []api.CloudClass, x api.CloudSignal, off int) bool {
	class := classOf(c, x)
	for i := range 2*off + 1 {
		for j := range 2*off + 1 {
			near := api.CloudSignal{Signal: x.Signal + i - off, Part: x.Part + j - off}
			if classOf(c, near) != class {
				return false
			}
		}
	}
	return true
}
