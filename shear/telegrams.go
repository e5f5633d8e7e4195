package shear

import (
	"slices"

	"glidepath/api"
)

// Encoded returns the words of a telegram.
func Encoded(t api.ShearTelegram) ([api.ShearWords]int, api.Errno) {
	if e := telegramError(t); e != api.OK {
		return [api.ShearWords]int{}, e
	}
	words := [api.ShearWords]int{
		t.Runway,
		t.Number / api.ShearWord, t.Number % api.ShearWord,
		t.Kind,
		t.Value / api.ShearWord, t.Value % api.ShearWord,
	}
	// ShearWord is prime, so that exactly one last word proves the others.
	for !isProven(words) {
		words[api.ShearWords-1]++
	}
	return words, api.OK
}

// Decoded returns the telegram with words.
func Decoded(w [api.ShearWords]int) (api.ShearTelegram, api.Errno) {
	_, outside := itemError(w[:], wordError)
	t := api.ShearTelegram{
		Runway: w[0],
		Number: w[1]*api.ShearWord + w[2],
		Kind:   w[3],
		Value:  w[4]*api.ShearWord + w[5],
	}
	if e := firstError(outside, errorIf(!isProven(w), api.ErrProof), telegramError(t)); e != api.OK {
		return api.ShearTelegram{}, e
	}
	return t, api.OK
}

// Delivered returns the correct telegrams, each number of a runway once.
func Delivered(l [][api.ShearWords]int) ([]api.ShearTelegram, api.Errno) {
	if e := countError(l); e != api.OK {
		return nil, e
	}
	return delivered(l), api.OK
}

// LostOf returns the numbers of a runway that are missing between those that are delivered.
func LostOf(l [][api.ShearWords]int, runway int) ([]int, api.Errno) {
	if e := firstError(countError(l), wordError(runway)); e != api.OK {
		return nil, e
	}
	var numbers []int
	for _, t := range delivered(l) {
		if t.Runway == runway {
			numbers = append(numbers, t.Number)
		}
	}
	slices.Sort(numbers)
	lost := between(numbers)
	if len(lost) > api.MaxShearLost {
		return nil, api.ErrFull
	}
	return lost, api.OK
}

func wordError(word int) api.Errno {
	return rangeError(word, 0, api.ShearWord-1)
}

func telegramError(t api.ShearTelegram) api.Errno {
	return firstError(
		wordError(t.Runway),
		rangeError(t.Number, 0, api.MaxShearNumber),
		rangeError(t.Value, 0, api.MaxShearNumber),
		rangeError(t.Kind, 0, api.ShearKinds-1),
	)
}

func countError(l [][api.ShearWords]int) api.Errno {
	return errorIf(len(l) > api.MaxShearTelegrams, api.ErrLarge)
}

func isProven(words [api.ShearWords]int) bool {
	sum := 0
	for i, word := range words {
		sum += (i + 1) * word
	}
	return sum%api.ShearWord == 0
}

func delivered(l [][api.ShearWords]int) []api.ShearTelegram {
	var telegrams []api.ShearTelegram
	arrived := map[[2]int]bool{}
	for _, words := range l {
		t, e := Decoded(words)
		key := [2]int{t.Runway, t.Number}
		if e != api.OK || arrived[key] {
			continue
		}
		arrived[key] = true
		telegrams = append(telegrams, t)
	}
	return telegrams
}

// between returns the numbers that are missing between ascending ones.
func between(numbers []int) []int {
	var missing []int
	for i := 1; i < len(numbers); i++ {
		for x := numbers[i-1] + 1; x < numbers[i]; x++ {
			missing = append(missing, x)
		}
	}
	return missing
}
