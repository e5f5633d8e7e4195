package tower

import (
	"strconv"
	"strings"

	"glidepath/api"
)

// SumOf returns the sum of a string after a number.
func SumOf(s string, after int) (int, api.Errno) {
	if e := rangeError(after, 0, api.TowerPrime-1); e != api.OK {
		return 0, e
	}
	return sumAfter(s, after), api.OK
}

// Journal returns the journal of a log.
func Journal(n api.TowerNet, l []api.TowerEntry) (string, api.Errno) {
	if _, e := CheckLog(n, l); e != api.OK {
		return "", e
	}
	var lines strings.Builder
	sum := 0
	for _, x := range l {
		var line string
		line, sum = lineOf(x, sum)
		lines.WriteString(line)
	}
	return lines.String(), api.OK
}

// Recovered returns the log of the longest beginning of a string that is a journal, and the
// number of bytes of this beginning.
func Recovered(n api.TowerNet, s string) ([]api.TowerEntry, int, api.Errno) {
	_, e := CheckNet(n)
	if e := firstError(e, errorIf(len(s) > api.MaxString, api.ErrLarge)); e != api.OK {
		return nil, 0, e
	}
	a := newAirport(n)
	sum, length := 0, 0
	for line := range strings.Lines(s) {
		x, ok := entryIn(line)
		// Whatever entryIn does not look at, the line that is made again differs from this one.
		again, next := lineOf(x, sum)
		if !ok || again != line || a.enter(x) != api.OK {
			break
		}
		sum = next
		length += len(line)
	}
	return a.log, length, api.OK
}

// Merged returns a log that begins with a and goes on with what b has in addition, as far as it
// is possible after that, and the indexes of the entries of b that are not.
func Merged(n api.TowerNet, a, b []api.TowerEntry) ([]api.TowerEntry, []int, api.Errno) {
	merged, _, e := replayed(n, a)
	if e != api.OK {
		return nil, nil, e
	}
	if _, e := CheckLog(n, b); e != api.OK {
		return nil, nil, e
	}
	common := 0
	for common < min(len(a), len(b)) && a[common] == b[common] {
		common++
	}
	var refused []int
	for i := common; i < len(b); i++ {
		if merged.enter(b[i]) != api.OK {
			refused = append(refused, i)
		}
	}
	return merged.log, refused, api.OK
}

func sumAfter(s string, sum int) int {
	for i := range len(s) {
		sum = (sum*api.TowerFactor + int(s[i]) + 1) % api.TowerPrime
	}
	return sum
}

// lineOf returns the line of an entry after a line with a sum, and its own sum.
func lineOf(x api.TowerEntry, after int) (string, int) {
	s := strconv.Itoa(x.At) + " " + x.By + " " + x.Text
	sum := sumAfter(s, after)
	return s + " " + strconv.Itoa(sum) + "\n", sum
}

// entryIn returns the only entry that may have a line, and does not look at the sum.
func entryIn(line string) (api.TowerEntry, bool) {
	at, after, _ := strings.Cut(line, " ")
	by, after, _ := strings.Cut(after, " ")
	end := strings.LastIndexByte(after, ' ')
	tick, ok := unsignedIn(at, maxTickDigits)
	if !ok || end < 0 {
		return api.TowerEntry{}, false
	}
	return api.TowerEntry{At: tick, By: by, Text: after[:end]}, true
}
