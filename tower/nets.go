package tower

import (
	"slices"

	"glidepath/api"
	"glidepath/shear"
	"glidepath/spacing"
)

// CheckNet returns the error of a net, with the index of the person or of the runway that it
// concerns.
func CheckNet(n api.TowerNet) (int, api.Errno) {
	e := firstError(
		errorIf(len(n.People) == 0 || len(n.Runways) == 0, api.ErrShape),
		errorIf(len(n.People) > api.MaxTowerPeople || len(n.Runways) > api.MaxTowerRunways, api.ErrLarge),
	)
	if e != api.OK {
		return 0, e
	}
	if i, e := itemError(n.People, personError); e != api.OK {
		return i, e
	}
	if i, e := itemError(n.Runways, runwayError); e != api.OK {
		return i, e
	}
	_, e = spacing.CheckRule(n.Rule)
	return 0, firstError(e, rangeError(n.Length, 1, api.MaxShearAt))
}

func personError(before []api.TowerPerson, x api.TowerPerson) api.Errno {
	hasName := func(other api.TowerPerson) bool { return other.Name == x.Name }
	return firstError(
		errorIf(!isName(x.Name), api.ErrName),
		errorIf(slices.ContainsFunc(before, hasName), api.ErrExists),
		errorIf(x.Role < 0 || x.Role >= api.TowerRoles, api.ErrKind),
	)
}

func runwayError(before []api.TowerRunway, x api.TowerRunway) api.Errno {
	hasName := func(other api.TowerRunway) bool { return other.Name == x.Name }
	// Both ends are compared, because the smallest whole number has no size.
	isTooLong := func(k int) bool { return k < -api.MaxWindDirection || k > api.MaxWindDirection }
	return firstError(
		errorIf(!isName(x.Name), api.ErrName),
		errorIf(slices.ContainsFunc(before, hasName), api.ErrExists),
		errorIf(slices.ContainsFunc(x.Direction[:], isTooLong), api.ErrRange),
		errorIf(x.Direction == [3]int{}, api.ErrZero),
		shear.CheckRule(x.Alert),
	)
}

// cloned shares no memory with the net.
func cloned(n api.TowerNet) api.TowerNet {
	n.People, n.Runways = slices.Clone(n.People), slices.Clone(n.Runways)
	n.Rule = api.SpacingRule{Seconds: clonedRows(n.Rule.Seconds), Free: clonedRows(n.Rule.Free)}
	return n
}

func clonedRows(rows [][]int) [][]int {
	l := make([][]int, len(rows))
	for i, row := range rows {
		l[i] = slices.Clone(row)
	}
	return l
}
