package tower

import (
	"strconv"
	"strings"

	"glidepath/api"
	"glidepath/shear"
)

// Answer returns the answer to a question about a log.
func Answer(n api.TowerNet, l []api.TowerEntry, question string) (string, api.Errno) {
	a, _, e := replayed(n, l)
	if e != api.OK {
		return "", e
	}
	switch question {
	case "count":
		return strconv.Itoa(len(l)), api.OK
	case "lidars":
		return orDash(a.working()), api.OK
	}
	word, name, hasName := strings.Cut(question, " ")
	answer, isKnown := answersByWord()[word]
	if !hasName || !isKnown {
		return "", api.ErrSyntax
	}
	s, e := answer(a, name)
	if e != api.OK {
		return "", e
	}
	return orDash(s), api.OK
}

// answersByWord are the answers to the questions that end with a name.
func answersByWord() map[string]func(*airport, string) (string, api.Errno) {
	return map[string]func(*airport, string) (string, api.Errno){
		"profile":  onRunway((*airport).profile),
		"alert":    onRunway((*airport).alert),
		"slots":    onRunway((*airport).slots),
		"released": (*airport).released,
	}
}

// onRunway lets an answer about the index of a runway be asked for with its name.
func onRunway(answer func(*airport, int) string) func(*airport, string) (string, api.Errno) {
	return func(a *airport, name string) (string, api.Errno) {
		i := a.runwayNamed(name)
		if i < 0 {
			return "", api.ErrMissing
		}
		return answer(a, i), api.OK
	}
}

func (a *airport) working() string {
	var names []string
	for _, x := range a.Lidars {
		if x.Works {
			names = append(names, x.Name)
		}
	}
	return strings.Join(names, ",")
}

func (a *airport) profile(runway int) string {
	return shear.FormatProfile(a.Strips[runway].Profile)
}

func (a *airport) alert(runway int) string {
	alert := a.alertAt(runway, a.now())
	if !alert.Standing {
		return ""
	}
	return strconv.Itoa(alert.Number) + " " + strconv.Itoa(alert.Since)
}

func (a *airport) slots(runway int) string {
	strip := a.Strips[runway]
	slots := make([]string, len(strip.Slots))
	for i, x := range strip.Slots {
		slots[i] = strip.Arrivals[x.Arrival].Name + ":" + strconv.Itoa(x.Time)
	}
	return strings.Join(slots, ",")
}

func (a *airport) released(arrival string) (string, api.Errno) {
	if _, ok := a.arrivalNamed(arrival); !ok {
		return "", api.ErrMissing
	}
	last := ""
	for _, x := range a.Releases {
		if x.Arrival == arrival {
			last = x.By + " " + strconv.Itoa(x.Time)
		}
	}
	return last, api.OK
}

func orDash(s string) string {
	if s == "" {
		return "-"
	}
	return s
}
