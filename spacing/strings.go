package spacing

import (
	"strconv"
	"strings"

	"glidepath/api"
)

const (
	maxRuleDigits = 4
	maxDigits     = 6
)

// FormatRule returns the string of any rule, also of one that is not valid.
func FormatRule(r api.SpacingRule) string {
	return formatRows(r.Seconds) + "/" + formatRows(r.Free)
}

// ParseRule returns the rule with a string.
func ParseRule(s string) (api.SpacingRule, api.Errno) {
	if len(s) > api.MaxString {
		return api.SpacingRule{}, api.ErrLarge
	}
	r, ok := ruleIn(s)
	if e := firstError(errorIf(!ok, api.ErrSyntax), ruleError(r)); e != api.OK {
		return api.SpacingRule{}, e
	}
	return r, api.OK
}

// FormatArrivals returns the string of any arrivals, also of those that are not valid.
func FormatArrivals(l []api.SpacingArrival) string {
	arrivals := make([]string, len(l))
	for i, x := range l {
		arrivals[i] = x.Name + " " + joined(x.Category, x.Earliest, x.Latest, x.Cost)
	}
	return strings.Join(arrivals, ";")
}

// ParseArrivals returns the arrivals with a string.
func ParseArrivals(s string) ([]api.SpacingArrival, api.Errno) {
	if len(s) > api.MaxString {
		return nil, api.ErrLarge
	}
	l, ok := arrivalsIn(s)
	_, e := CheckArrivals(l)
	if e := firstError(errorIf(!ok, api.ErrSyntax), e); e != api.OK {
		return nil, e
	}
	return l, api.OK
}

// FormatPlan returns the string of any plan, also of one that does not keep the rules.
func FormatPlan(plan []api.SpacingSlot) string {
	slots := make([]string, len(plan))
	for i, x := range plan {
		slots[i] = joined(x.Arrival, x.Time)
	}
	return strings.Join(slots, ";")
}

// ParsePlan returns the slots with a string, which need not fit any problem.
func ParsePlan(s string) ([]api.SpacingSlot, api.Errno) {
	if len(s) > api.MaxString {
		return nil, api.ErrLarge
	}
	var plan []api.SpacingSlot
	for _, part := range partsOf(s) {
		var x api.SpacingSlot
		if !numbersIn(strings.Split(part, " "), &x.Arrival, &x.Time) {
			return nil, api.ErrSyntax
		}
		plan = append(plan, x)
	}
	return plan, api.OK
}

func formatRows(rows [][]int) string {
	l := make([]string, len(rows))
	for i, row := range rows {
		l[i] = joined(row...)
	}
	return strings.Join(l, ";")
}

func joined(l ...int) string {
	words := make([]string, len(l))
	for i, x := range l {
		words[i] = strconv.Itoa(x)
	}
	return strings.Join(words, " ")
}

// partsOf returns the items with ";" between them: the empty string has none.
func partsOf(s string) []string {
	if s == "" {
		return nil
	}
	return strings.Split(s, ";")
}

func ruleIn(s string) (api.SpacingRule, bool) {
	parts := strings.Split(s, "/")
	if len(parts) != 2 {
		return api.SpacingRule{}, false
	}
	seconds, ok := rowsIn(parts[0])
	free, isFreeOK := rowsIn(parts[1])
	return api.SpacingRule{Seconds: seconds, Free: free}, ok && isFreeOK
}

// rowsIn does not ask how long the rows are.
func rowsIn(s string) ([][]int, bool) {
	var rows [][]int
	for _, part := range strings.Split(s, ";") {
		var row []int
		for _, word := range strings.Split(part, " ") {
			x, ok := unsignedIn(word, maxRuleDigits)
			if !ok {
				return nil, false
			}
			row = append(row, x)
		}
		rows = append(rows, row)
	}
	return rows, true
}

func arrivalsIn(s string) ([]api.SpacingArrival, bool) {
	var l []api.SpacingArrival
	for _, part := range partsOf(s) {
		words := strings.Split(part, " ")
		x := api.SpacingArrival{Name: words[0]}
		ok := numbersIn(words[1:], &x.Category, &x.Earliest, &x.Latest, &x.Cost)
		if !ok || x.Name == "" {
			return nil, false
		}
		l = append(l, x)
	}
	return l, true
}

// numbersIn puts as many numbers as there are places.
func numbersIn(words []string, places ...*int) bool {
	if len(words) != len(places) {
		return false
	}
	for i, place := range places {
		x, ok := unsignedIn(words[i], maxDigits)
		if !ok {
			return false
		}
		*place = x
	}
	return true
}

// unsignedIn reads the digits itself: strconv also takes signs and leading zeros.
func unsignedIn(s string, digits int) (int, bool) {
	if len(s) == 0 || len(s) > digits || len(s) > 1 && s[0] == '0' {
		return 0, false
	}
	x := 0
	for i := range len(s) {
		if !isDigit(s[i]) {
			return 0, false
		}
		x = 10*x + int(s[i]-'0')
	}
	return x, true
}
