package target_test

import (
	"slices"
	"testing"

	"glidepath/api"
	"glidepath/target"
)

// daysOf does the tasks hour by hour, in an order; a task of 0 hours is finished with those
// before it.
func daysOf(l []api.TargetTask, order []int, hours int) []int {
	days := make([]int, len(l))
	day, left := 0, 0
	for _, i := range order {
		for range l[i].Hours {
			if left == 0 {
				day, left = day+1, hours
			}
			left--
		}
		days[i] = day
	}
	return days
}

// ascending inserts each task behind those that are not due later.
func ascending(l []api.TargetTask) []int {
	var order []int
	for i, x := range l {
		at := 0
		for at < len(order) && l[order[at]].Due <= x.Due {
			at++
		}
		order = slices.Insert(order, at, i)
	}
	return order
}

// lackOf returns a day below 0 if there is no lack.
func lackOf(l []api.TargetTask, hours int) (int, int) {
	for day := 0; day <= 1000; day++ {
		left := day * hours
		for _, x := range l {
			if x.Due <= day {
				left -= x.Hours
			}
		}
		if left < 0 {
			return day, -left
		}
	}
	return -1, 0
}

func inTime(l []api.TargetTask, days []int) bool {
	for i, x := range l {
		if days[i] > x.Due {
			return false
		}
	}
	return true
}

// orders are all orders of so many tasks.
func orders(count int) [][]int {
	if count == 0 {
		return [][]int{nil}
	}
	var l [][]int
	for _, shorter := range orders(count - 1) {
		for at := range count {
			l = append(l, slices.Insert(slices.Clone(shorter), at, count-1))
		}
	}
	return l
}

func someTasks(seed uint64, count int) [][]api.TargetTask {
	draw := &draws{seed}
	l := [][]api.TargetTask{nil, {}, seven(), {task("a", 1000, 1000)}, {task("a", 0, 0)}}
	for i := range count {
		l = append(l, draw.tasks(i%11, []int{3, 20, 1000}[i/11%3], []int{3, 30, 1000}[i/33%3]))
	}
	return l
}

// P9.5
func TestCheckTasks(t *testing.T) {
	good := append(someTasks(941, 100),
		[]api.TargetTask{task("abcdefghijkl", 0, 0), task("Z-0", 1000, 1000), task("a", 0, 0), task("A", 0, 0), task("z9-", 0, 0)},
		(&draws{942}).tasks(10, 1000, 1000),
	)
	for _, l := range good {
		if i, e := target.CheckTasks(l); i != 0 || e != api.OK {
			t.Errorf("%v: %d, %d", l, i, e)
		}
	}
	for _, x := range badTasks() {
		if i, e := target.CheckTasks(x.value); i != x.index || e != x.want {
			t.Errorf("%v: %d, %d, want %d, %d", x.value, i, e, x.index, x.want)
		}
	}
}

// P9.5, example 7, edge cases
func TestTasksExamples(t *testing.T) {
	type list = []api.TargetTask
	for _, c := range []struct {
		tasks     list
		hours     int
		days      []int
		day, lack int // the day is below 0 if there is no lack
	}{
		{seven(), 8, []int{2, 1}, -1, 0}, {seven(), 7, []int{3, 1}, 2, 2}, {seven(), 6, []int{3, 1}, 2, 4}, {seven(), 5, []int{4, 2}, 1, 1}, {seven(), 1, []int{16, 6}, 1, 5}, {seven(), 24, []int{1, 1}, -1, 0}, {seven(), 16, []int{1, 1}, -1, 0},
		{nil, 1, nil, -1, 0},
		// A task due on day 0 with hours is a lack on day 0.
		{list{task("a", 0, 1)}, 24, []int{1}, 0, 1}, {list{task("b", 5, 9), task("a", 0, 3), task("c", 0, 4)}, 1, []int{16, 3, 7}, 0, 7}, {list{task("a", 0, 0)}, 1, []int{0}, -1, 0},
		// Tasks of 0 hours are finished with those before them.
		{list{task("a", 5, 0), task("b", 1, 6)}, 4, []int{2, 2}, 1, 2}, {list{task("a", 5, 0), task("b", 5, 6)}, 4, []int{0, 2}, -1, 0}, {list{task("b", 5, 6), task("a", 5, 0)}, 4, []int{2, 2}, -1, 0}, {list{task("b", 5, 8), task("a", 5, 0)}, 4, []int{2, 2}, -1, 0},
		// Those with the same day are done by their index.
		{list{task("z", 3, 2), task("a", 3, 2), task("m", 3, 2)}, 2, []int{1, 2, 3}, -1, 0}, {list{task("z", 3, 3), task("a", 3, 3), task("m", 3, 3)}, 2, []int{2, 3, 5}, 3, 3},
		// The first day counts, not that with the greatest lack.
		{list{task("a", 900, 1000), task("b", 2, 9)}, 1, []int{1009, 9}, 2, 7}, {list{task("a", 1000, 1000), task("b", 1000, 1)}, 1, []int{1000, 1001}, 1000, 1}, {list{task("a", 1000, 1000)}, 1, []int{1000}, -1, 0},
		{list{task("a", 999, 1000)}, 1, []int{1000}, 999, 1},
	} {
		if days, e := target.DaysOf(c.tasks, c.hours); !same(days, c.days) || e != api.OK {
			t.Errorf("%v, %d: %v, %d, want %v", c.tasks, c.hours, days, e, c.days)
		}
		day, lack, e := target.LackOf(c.tasks, c.hours)
		if c.day < 0 {
			expectOnly(t, "none", day, e, api.ErrNone)
			expectOnly(t, "none", lack, e, api.ErrNone)
		} else if day != c.day || lack != c.lack || e != api.OK {
			t.Errorf("%v, %d: %d, %d, %d, want %d, %d", c.tasks, c.hours, day, lack, e, c.day, c.lack)
		}
	}
}

// P9.5, P9.11
func TestTasks(t *testing.T) {
	lacks := 0
	for i, l := range someTasks(943, 600) {
		kept := slices.Clone(l)
		hours := []int{1, 2, 7, 24}[i%4]
		days, e := target.DaysOf(l, hours)
		if !same(days, daysOf(l, ascending(l), hours)) || e != api.OK {
			t.Fatalf("%v, %d: %v, %d", l, hours, days, e)
		}
		wantDay, wantLack := lackOf(l, hours)
		day, lack, e := target.LackOf(l, hours)
		if wantDay < 0 {
			expectOnly(t, "none", day, e, api.ErrNone)
			expectOnly(t, "none", lack, e, api.ErrNone)
		} else if day != wantDay || lack != wantLack || e != api.OK {
			t.Fatalf("%v, %d: %d, %d, %d, want %d, %d", l, hours, day, lack, e, wantDay, wantLack)
		}
		if inTime(l, days) != (e == api.ErrNone) {
			t.Fatalf("%v, %d: %v, %d", l, hours, days, e)
		}
		if e == api.OK {
			lacks++
		}
		if hours < 24 {
			more, e := target.DaysOf(l, hours+1)
			for j := range more {
				if more[j] > days[j] || e != api.OK {
					t.Fatalf("%v, %d: %v, then %v", l, hours, days, more)
				}
			}
		}
		if !slices.Equal(l, kept) {
			t.Fatalf("%v changed from %v", l, kept)
		}
	}
	if lacks < 100 || lacks > 500 {
		t.Errorf("%d lacks", lacks)
	}
}

// P9.11: with a lack no order is in time.
func TestLackProves(t *testing.T) {
	draw := &draws{944}
	for range 300 {
		l := draw.tasks(draw.from(1, 5), 6, 8)
		hours := draw.from(1, 8)
		_, _, e := target.LackOf(l, hours)
		some := slices.ContainsFunc(orders(len(l)), func(order []int) bool { return inTime(l, daysOf(l, order, hours)) })
		if some != (e == api.ErrNone) {
			t.Fatalf("%v, %d: %v, %d", l, hours, some, e)
		}
	}
}

// P9.5
func TestTasksErrors(t *testing.T) {
	for _, x := range badTasks() {
		for _, hours := range []int{1, 0} {
			days, e := target.DaysOf(x.value, hours)
			expectOnly(t, "DaysOf", days, e, x.want)
			day, lack, e := target.LackOf(x.value, hours)
			expectOnly(t, "LackOf", day, e, x.want)
			expectOnly(t, "LackOf", lack, e, x.want)
		}
	}
	for _, hours := range beyond(1, 24) {
		for _, l := range [][]api.TargetTask{seven(), nil, {task("a", 0, 1)}} {
			days, e := target.DaysOf(l, hours)
			expectOnly(t, "DaysOf", days, e, api.ErrRange)
			day, lack, e := target.LackOf(l, hours)
			expectOnly(t, "LackOf", day, e, api.ErrRange)
			expectOnly(t, "LackOf", lack, e, api.ErrRange)
		}
	}
}

// R4: nothing is kept from an earlier call.
func TestTasksAgain(t *testing.T) {
	for range 3 {
		if i, e := target.CheckTasks(seven()); i != 0 || e != api.OK {
			t.Errorf("%d, %d", i, e)
		}
		days, _ := target.DaysOf(seven(), 8)
		if !same(days, []int{2, 1}) {
			t.Errorf("%v", days)
		}
		days[0] = 7
	}
}
