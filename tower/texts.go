package tower

import (
	"strings"

	"glidepath/api"
)

// The kinds of what follows the first word of a text. Only the last one may be the rest.
const (
	wordKind   = 'w'
	numberKind = 'n'
	restKind   = 'r'
)

// text is who may make a text, the kinds of what follows its first word, and what it does.
type text struct {
	role   int
	kinds  string
	effect func(*airport, command) api.Errno
}

// command is an entry whose text is of its form. No text has two numbers.
type command struct {
	api.TowerEntry
	words  []string
	number int
	rest   string
}

func textsByWord() map[string]text {
	return map[string]text{
		"note":    {api.TowerGuest, "r", (*airport).note},
		"lidar":   {api.TowerEngineer, "w", (*airport).addLidar},
		"stop":    {api.TowerEngineer, "w", (*airport).stopLidar},
		"start":   {api.TowerEngineer, "w", (*airport).startLidar},
		"scan":    {api.TowerController, "wwnr", (*airport).scan},
		"assess":  {api.TowerController, "w", (*airport).assess},
		"ack":     {api.TowerController, "wn", (*airport).acknowledge},
		"arrival": {api.TowerController, "wr", (*airport).addArrival},
		"free":    {api.TowerController, "w", (*airport).freeCorridor},
		"release": {api.TowerController, "wn", (*airport).release},
		"around":  {api.TowerController, "wn", (*airport).goAround},
		"close":   {api.TowerChief, "wr", (*airport).closeRunway},
		"open":    {api.TowerChief, "w", (*airport).openRunway},
	}
}

func (a *airport) note(command) api.Errno { return api.OK }

// commandIn reads what follows the first word of the text of an entry.
func commandIn(x api.TowerEntry, kinds, after string) (command, bool) {
	c := command{TowerEntry: x}
	for _, kind := range kinds {
		part, hasBlank := strings.CutPrefix(after, " ")
		word := part
		if kind != restKind {
			word, _, _ = strings.Cut(part, " ")
		}
		if !hasBlank || !c.take(kind, word) {
			return command{}, false
		}
		after = part[len(word):]
	}
	return c, after == ""
}

func (c *command) take(kind rune, word string) bool {
	switch kind {
	case wordKind:
		c.words = append(c.words, word)
		return word != ""
	case numberKind:
		number, ok := unsignedIn(word, maxDigits)
		c.number = number
		return ok
	}
	c.rest = word
	return true
}
