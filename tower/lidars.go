package tower

import (
	"cmp"
	"slices"

	"glidepath/api"
	"glidepath/wind"
)

func (a *airport) addLidar(c command) api.Errno {
	name := c.words[0]
	e := firstError(
		errorIf(!isName(name), api.ErrName),
		errorIf(a.lidarNamed(name) >= 0, api.ErrExists),
		errorIf(len(a.Lidars) >= api.MaxTowerLidars, api.ErrFull),
	)
	if e != api.OK {
		return e
	}
	a.Lidars = append(a.Lidars, api.TowerLidar{Name: name, Works: true})
	return api.OK
}

func (a *airport) stopLidar(c command) api.Errno { return a.switchLidar(c.words[0], false) }

func (a *airport) startLidar(c command) api.Errno { return a.switchLidar(c.words[0], true) }

func (a *airport) switchLidar(name string, works bool) api.Errno {
	i := a.lidarNamed(name)
	if i < 0 {
		return api.ErrMissing
	}
	if a.Lidars[i].Works == works {
		return api.ErrState
	}
	a.Lidars[i].Works = works
	return api.OK
}

func (a *airport) scan(c command) api.Errno {
	lidar, runway := a.lidarNamed(c.words[0]), a.runwayNamed(c.words[1])
	e := firstError(
		errorIf(lidar < 0, api.ErrMissing),
		errorIf(lidar >= 0 && !a.Lidars[lidar].Works, api.ErrState),
		errorIf(runway < 0, api.ErrMissing),
		rangeError(c.number, 0, api.MaxShearAt),
	)
	if e != api.OK {
		return e
	}
	readings, e := wind.ParseReadings(c.rest)
	if e != api.OK {
		return e
	}
	headwind, e := wind.HeadwindIn(readings, a.Runways[runway].Direction)
	if e != api.OK {
		return e
	}
	if headwind.Lo < -api.MaxShearWind || headwind.Hi > api.MaxShearWind {
		return api.ErrLarge
	}
	return a.addScan(runway, api.TowerScan{
		Lidar: c.words[0], Runway: c.words[1], At: c.At, Position: c.number, Readings: readings, Headwind: headwind,
	})
}

// addScan puts the headwind of a scan into the profile of its runway.
func (a *airport) addScan(runway int, x api.TowerScan) api.Errno {
	strip := &a.Strips[runway]
	i, isKnown := slices.BinarySearchFunc(strip.Profile, x.Position, func(g api.ShearGate, position int) int {
		return cmp.Compare(g.At, position)
	})
	if len(a.Scans) >= api.MaxTowerScans || !isKnown && len(strip.Profile) >= api.MaxShearGates {
		return api.ErrFull
	}
	if !isKnown {
		strip.Profile = slices.Insert(strip.Profile, i, api.ShearGate{At: x.Position})
	}
	strip.Profile[i].Wind = x.Headwind
	a.Scans = append(a.Scans, x)
	return api.OK
}
