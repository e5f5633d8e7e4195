package tower

import (
	"slices"

	"glidepath/api"
)

// Desk is a net, and a log.
type Desk struct {
	net api.TowerNet
	log []api.TowerEntry
}

// New returns a desk with a net and the empty log.
func New(n api.TowerNet) (*Desk, api.Errno) {
	if _, e := CheckNet(n); e != api.OK {
		return nil, e
	}
	return &Desk{net: cloned(n)}, api.OK
}

// Enter appends an entry to the log.
func (d *Desk) Enter(at int, by, text string) api.Errno {
	if d == nil {
		return api.ErrNil
	}
	l, e := Appended(d.net, d.log, api.TowerEntry{At: at, By: by, Text: text})
	if e != api.OK {
		return e
	}
	d.log = l
	return api.OK
}

// Undo removes the last entry of the log.
func (d *Desk) Undo() api.Errno {
	if d == nil {
		return api.ErrNil
	}
	if len(d.log) == 0 {
		return api.ErrNone
	}
	d.log = d.log[:len(d.log)-1]
	return api.OK
}

// Log returns the log.
func (d *Desk) Log() []api.TowerEntry {
	if d == nil {
		return nil
	}
	return slices.Clone(d.log)
}

// Answer returns the answer to a question about the log.
func (d *Desk) Answer(question string) (string, api.Errno) {
	if d == nil {
		return "", api.ErrNil
	}
	return Answer(d.net, d.log, question)
}

// Journal returns the journal of the log.
func (d *Desk) Journal() string {
	if d == nil {
		return ""
	}
	journal, _ := Journal(d.net, d.log)
	return journal
}
