package wind

import (
	"cmp"

	"glidepath/api"
)

// vector is a direction, or the parts of a wind.
type vector [3]int

func (a vector) times(b vector) int {
	return a[0]*b[0] + a[1]*b[1] + a[2]*b[2]
}

func (a vector) cross(b vector) vector {
	return vector{a[1]*b[2] - a[2]*b[1], a[2]*b[0] - a[0]*b[2], a[0]*b[1] - a[1]*b[0]}
}

func (a vector) plus(factor int, b vector) vector {
	return vector{a[0] + factor*b[0], a[1] + factor*b[1], a[2] + factor*b[2]}
}

// solved returns the parts of the vector whose products with three rows are three values, and
// by what these parts are divided: 0 if the rows depend on each other.
func solved(rows [3]vector, values [3]int) (vector, int) {
	var parts vector
	for k, value := range values {
		parts = parts.plus(value, rows[(k+1)%3].cross(rows[(k+2)%3]))
	}
	return parts, rows[0].times(rows[1].cross(rows[2]))
}

func windError(v api.WindVector) api.Errno {
	_, e := itemError([]int{v.X, v.Y, v.Z}, sizeError(api.MaxWindPart))
	return firstError(
		rangeError(v.Den, 1, api.MaxPart),
		e,
		errorIf(divisorOf(v.Den, v.X, v.Y, v.Z) != 1, api.ErrForm),
	)
}

// lowestWind expects that den is not 0.
func lowestWind(parts vector, den int) api.WindVector {
	d := divisorOf(den, parts[0], parts[1], parts[2])
	if den < 0 {
		d = -d
	}
	return api.WindVector{X: parts[0] / d, Y: parts[1] / d, Z: parts[2] / d, Den: den / d}
}

func partsOf(v api.WindVector) vector {
	return vector{v.X, v.Y, v.Z}
}

func compareWinds(a, b api.WindVector) int {
	for k, part := range partsOf(a) {
		if c := cmp.Compare(part*b.Den, partsOf(b)[k]*a.Den); c != 0 {
			return c
		}
	}
	return 0
}
