package target

import (
	"cmp"
	"slices"

	"glidepath/api"
)

// CheckTasks returns the error of tasks, with the index of the task that it concerns.
func CheckTasks(l []api.TargetTask) (int, api.Errno) {
	known := map[string]bool{}
	return listError(l, api.MaxTargetTasks, func(x api.TargetTask) api.Errno {
		isKnown := known[x.Name]
		known[x.Name] = true
		return firstError(
			errorIf(!isName(x.Name), api.ErrName),
			errorIf(isKnown, api.ErrExists),
			rangeError(x.Due, 0, api.MaxTargetDays),
			rangeError(x.Hours, 0, api.MaxTargetHours),
		)
	})
}

// DaysOf returns the day on which each task is finished, with so many hours on each day.
func DaysOf(l []api.TargetTask, hours int) ([]int, api.Errno) {
	if e := firstError(tasksError(l), hoursError(hours)); e != api.OK {
		return nil, e
	}
	days := make([]int, len(l))
	done := 0
	for _, task := range orderOf(l) {
		done += l[task].Hours
		days[task] = roundedUp(done, hours)
	}
	return days, api.OK
}

// LackOf returns the first day with a lack, and how many hours are lacking on it.
func LackOf(l []api.TargetTask, hours int) (int, int, api.Errno) {
	if e := firstError(tasksError(l), hoursError(hours)); e != api.OK {
		return 0, 0, e
	}
	for day := range api.MaxTargetDays + 1 {
		if lack := hoursDue(l, day) - day*hours; lack > 0 {
			return day, lack, api.OK
		}
	}
	return 0, 0, api.ErrNone
}

func tasksError(l []api.TargetTask) api.Errno {
	_, e := CheckTasks(l)
	return e
}

func hoursError(hours int) api.Errno {
	return rangeError(hours, 1, api.TargetDay)
}

// orderOf returns the indexes of tasks in the order in which they are done.
func orderOf(l []api.TargetTask) []int {
	var order []int
	for task := range len(l) {
		order = append(order, task)
	}
	slices.SortStableFunc(order, func(a, b int) int { return cmp.Compare(l[a].Due, l[b].Due) })
	return order
}

// hoursDue returns the hours of all tasks that are due on a day or before.
func hoursDue(l []api.TargetTask, day int) int {
	hours := 0
	for _, x := range l {
		if x.Due <= day {
			hours += x.Hours
		}
	}
	return hours
}

func isName(s string) bool {
	if len(s) == 0 || len(s) > api.MaxName || !isLetter(s[0]) {
		return false
	}
	for i := range len(s) {
		if !isLetter(s[i]) && !isDigit(s[i]) && s[i] != '-' {
			return false
		}
	}
	return true
}

func isLetter(c byte) bool {
	return c >= 'a' && c <= 'z' || c >= 'A' && c <= 'Z'
}

func isDigit(c byte) bool {
	return c >= '0' && c <= '9'
}
