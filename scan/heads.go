package scan

import (
	"slices"

	"glidepath/api"
)

// CheckHead returns the error of a head, with the index of the sector that it concerns.
func CheckHead(h api.ScanHead) (int, api.Errno) {
	e := firstError(
		directionError(h.Home),
		CheckAxis(h.Azimuth),
		CheckAxis(h.Elevation),
		errorIf(len(h.Reserved) > api.MaxScanSectors, api.ErrLarge),
	)
	if e != api.OK {
		return 0, e
	}
	if i, e := itemError(h.Reserved, sectorError); e != api.OK {
		return i, e
	}
	return 0, errorIf(isReserved(h, h.Home), api.ErrRefused)
}

// IsReserved returns whether a head must not light a direction.
func IsReserved(h api.ScanHead, d api.ScanDirection) (bool, api.Errno) {
	if e := firstError(headError(h), directionError(d)); e != api.OK {
		return false, e
	}
	return isReserved(h, d), api.OK
}

func headError(h api.ScanHead) api.Errno {
	_, e := CheckHead(h)
	return e
}

func sectorError(s api.ScanSector) api.Errno {
	return firstError(
		azimuthError(s.Azimuth.Lo),
		azimuthError(s.Azimuth.Hi),
		elevationError(s.Elevation.Lo),
		elevationError(s.Elevation.Hi),
		errorIf(s.Elevation.Lo > s.Elevation.Hi, api.ErrOrder),
	)
}

func isReserved(h api.ScanHead, d api.ScanDirection) bool {
	return slices.ContainsFunc(h.Reserved, func(s api.ScanSector) bool { return hasDirection(s, d) })
}

func hasDirection(s api.ScanSector, d api.ScanDirection) bool {
	isBetween := upwards(s.Azimuth.Lo, d.Azimuth) <= upwards(s.Azimuth.Lo, s.Azimuth.Hi)
	return isBetween && d.Elevation >= s.Elevation.Lo && d.Elevation <= s.Elevation.Hi
}
