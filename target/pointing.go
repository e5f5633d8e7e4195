package target

import (
	"slices"

	"glidepath/api"
)

type direction [3]int

type rotation [3][3]int

// RotationOf returns the rows of a rotation.
func RotationOf(index int) ([3][3]int, api.Errno) {
	if e := rotationError(index); e != api.OK {
		return [3][3]int{}, e
	}
	return rotations()[index], api.OK
}

// TurnedBy returns a direction turned by a rotation.
func TurnedBy(index int, direction [3]int) ([3]int, api.Errno) {
	if e := firstError(rotationError(index), directionError(direction)); e != api.OK {
		return [3]int{}, e
	}
	return rotations()[index].turned(direction), api.OK
}

// ScoresOf returns the scores of all rotations.
func ScoresOf(l []api.TargetSight) ([]int, api.Errno) {
	if e := sightsError(l); e != api.OK {
		return nil, e
	}
	return scoresOf(l), api.OK
}

// PointingOf returns the index of the pointing, and its score.
func PointingOf(l []api.TargetSight) (int, int, api.Errno) {
	if e := sightsError(l); e != api.OK {
		return 0, 0, e
	}
	scores := scoresOf(l)
	best := slices.Max(scores)
	return slices.Index(scores, best), best, api.OK
}

// IsSure says whether the scores of all rotations but the pointing are smaller by a margin.
func IsSure(l []api.TargetSight, margin int) (bool, api.Errno) {
	if e := firstError(sightsError(l), rangeError(margin, 1, api.MaxTargetMargin)); e != api.OK {
		return false, e
	}
	ascending := scoresOf(l)
	slices.Sort(ascending)
	best, second := ascending[api.TargetRotations-1], ascending[api.TargetRotations-2]
	return best-second >= margin, api.OK
}

func rotationError(index int) api.Errno {
	return rangeError(index, 0, api.TargetRotations-1)
}

func directionError(d [3]int) api.Errno {
	return sizeError(api.MaxTargetDirection, d[:]...)
}

func sightsError(l []api.TargetSight) api.Errno {
	_, e := filledError(l, api.MaxTargetSights, func(x api.TargetSight) api.Errno {
		return firstError(
			directionError(x.Known),
			directionError(x.Seen),
			errorIf(x.Known == [3]int{} || x.Seen == [3]int{}, api.ErrZero),
		)
	})
	return e
}

// rotations are made from two rows that are perpendicular; the third row follows from them,
// because the determinant is 1.
func rotations() [api.TargetRotations]rotation {
	ascending := [...]direction{{-1, 0, 0}, {0, -1, 0}, {0, 0, -1}, {0, 0, 1}, {0, 1, 0}, {1, 0, 0}}
	var all [api.TargetRotations]rotation
	count := 0
	for _, first := range ascending {
		for _, second := range ascending {
			if first.product(second) == 0 {
				all[count] = rotation{first, second, first.perpendicular(second)}
				count++
			}
		}
	}
	return all
}

func scoresOf(l []api.TargetSight) []int {
	var scores []int
	for _, r := range rotations() {
		score := 0
		for _, x := range l {
			score += r.turned(x.Known).product(x.Seen)
		}
		scores = append(scores, score)
	}
	return scores
}

func (r rotation) turned(d direction) direction {
	var turned direction
	for i := range len(r) {
		turned[i] = d.product(r[i])
	}
	return turned
}

// product returns the sum of the products of the numbers.
func (d direction) product(other direction) int {
	return d[0]*other[0] + d[1]*other[1] + d[2]*other[2]
}

// perpendicular returns the third row of a matrix of determinant 1.
func (d direction) perpendicular(other direction) direction {
	return direction{
		d[1]*other[2] - d[2]*other[1],
		d[2]*other[0] - d[0]*other[2],
		d[0]*other[1] - d[1]*other[0],
	}
}
