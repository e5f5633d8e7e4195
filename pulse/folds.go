package pulse

import (
	"iter"
	"slices"

	"glidepath/api"
)

// UnfoldedBy returns the speeds of at most a limit in size that fit all folded ones.
func UnfoldedBy(l []api.PulseFold, limit int) ([]int, api.Errno) {
	if e := firstError(foldsError(l), limitError(limit)); e != api.OK {
		return nil, e
	}
	var speeds []int
	for speed := -limit; speed <= limit; speed++ {
		if fitting(l, speed) == allOf(l) {
			speeds = append(speeds, speed)
		}
	}
	return speeds, api.OK
}

// Contradicting returns the minimum set of folded speeds that contradict each other.
func Contradicting(l []api.PulseFold, limit int) ([]int, api.Errno) {
	if e := firstError(foldsError(l), limitError(limit)); e != api.OK {
		return nil, e
	}
	fitted := fittedTogether(l, limit)
	var first []int
	for s := range allOf(l).parts() {
		if fitted[s] {
			continue
		}
		if members := s.members(); first == nil || comesBefore(members, first) {
			first = members
		}
	}
	if first == nil {
		return nil, api.ErrNone
	}
	return first, api.OK
}

func foldsError(l []api.PulseFold) api.Errno {
	_, e := listError(l, api.MaxPulseFolds, foldError)
	return e
}

func foldError(x api.PulseFold) api.Errno {
	return firstError(
		rangeError(x.Value, -api.MaxPulseSpeed, api.MaxPulseSpeed),
		rangeError(x.Period, 1, api.MaxPulseSpeed),
		rangeError(x.Off, 0, api.MaxPulseSpeed),
	)
}

func limitError(limit int) api.Errno {
	return rangeError(limit, 0, api.MaxPulseSpeed)
}

func fits(x api.PulseFold, speed int) bool {
	above := (speed - x.Value) % x.Period
	if above < 0 {
		above += x.Period
	}
	return min(above, x.Period-above) <= x.Off
}

// foldSet is a set of folded speeds: the bit i stands for the index i.
type foldSet uint

func allOf(l []api.PulseFold) foldSet {
	return 1<<len(l) - 1
}

func fitting(l []api.PulseFold, speed int) foldSet {
	var s foldSet
	for i, x := range l {
		if fits(x, speed) {
			s |= 1 << i
		}
	}
	return s
}

// fittedTogether has each set that some speed fits, with all its parts: a set that is missing contradicts itself.
func fittedTogether(l []api.PulseFold, limit int) map[foldSet]bool {
	fitted := map[foldSet]bool{}
	for speed := -limit; speed <= limit; speed++ {
		s := fitting(l, speed)
		if fitted[s] {
			continue
		}
		for part := range s.parts() {
			fitted[part] = true
		}
	}
	return fitted
}

func (s foldSet) parts() iter.Seq[foldSet] {
	return func(yield func(foldSet) bool) {
		for part := range s + 1 {
			if part&^s == 0 && !yield(part) {
				return
			}
		}
	}
}

func (s foldSet) members() []int {
	var l []int
	for i := range api.MaxPulseFolds {
		if s&(1<<i) != 0 {
			l = append(l, i)
		}
	}
	return l
}

func comesBefore(a, b []int) bool {
	if len(a) != len(b) {
		return len(a) < len(b)
	}
	return slices.Compare(a, b) < 0
}
