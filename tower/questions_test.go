package tower_test

import (
	"strings"
	"testing"

	"glidepath/api"
	"glidepath/tower"
)

// P10.7, examples 2 and 5
func TestAnswer(t *testing.T) {
	for _, c := range []struct {
		log            []api.TowerEntry
		question, want string
	}{
		{nil, "count", "0"}, {l()[:1], "count", "1"}, {l(), "count", "7"}, {full(), "count", "60"},
		{nil, "lidars", "-"}, {l(), "lidars", "l1"}, {busy(), "lidars", "l1,l2"}, {after("14 eve stop l1"), "lidars", "-"},
		{after("14 eve lidar b", "14 eve lidar a", "14 eve lidar c", "14 eve stop a"), "lidars", "l1,b,c"},
		{after("14 eve lidar b", "14 eve stop l1", "14 eve stop b", "15 eve start l1", "15 eve start b"), "lidars", "l1,b"},
		{nil, "profile r1", "-"}, {l()[:1], "profile r1", "-"}, {l()[:2], "profile r1", "0 900 1000"}, {l(), "profile r1", "0 900 1000;1000 200 300"}, {l(), "profile r2", "-"}, {busy(), "profile r2", "100 80 100;300 -205 -200"},
		{nil, "alert r1", "-"}, {l()[:3], "alert r1", "-"}, {l()[:4], "alert r1", "1 10"}, {l(), "alert r1", "1 10"}, {l(), "alert r3", "-"},
		// At the tick of the last entry, whatever this is.
		{after("70 gus note x"), "alert r1", "1 10"}, {after("71 gus note x"), "alert r1", "-"}, {after("71 con assess r1", "80 gus note x"), "alert r1", "2 71"}, {after("70 con assess r1", "100 gus note x"), "alert r1", "1 10"}, {busy(), "alert r1", "1 10"}, {busy(), "alert r2", "-"}, {busy()[:23], "alert r2", "-"}, {busy()[:22], "alert r2", "1 10"},
		{nil, "slots r1", "-"}, {l()[:6], "slots r1", "-"}, {l(), "slots r1", "aa1:100"}, {after("15 con around aa1 300"), "slots r1", "-"}, {busy(), "slots r1", "cc3:160,aa1:500"}, {busy(), "slots r2", "bb2:60"}, {busy(), "slots r3", "-"},
		{l()[:5], "released aa1", "-"}, {l(), "released aa1", "con 100"}, {busy(), "released aa1", "con 500"}, {busy(), "released cc3", "dan 160"}, {busy(), "released bb2", "con 60"},
		{after("15 con around aa1 300"), "released aa1", "con 100"}, {after("15 con around aa1 300", "16 dan ack r1 1", "17 dan release aa1 450"), "released aa1", "dan 450"},
	} {
		got, e := tower.Answer(three(), c.log, c.question)
		if got != c.want || e != api.OK {
			t.Errorf("%q after %v: %q, error %d, want %q", c.question, c.log, got, e, c.want)
		}
	}
}

// P10.7
func TestAnswerErrors(t *testing.T) {
	malformed := []string{
		"", " ", "x", "count ", " count", "Count", "counts", "count x", "lidars ", " lidars", "lidar", "lidars l1", "profile", "alert", "slots", "released", "profiles r1", "Profile r1", " profile r1", "release aa1", "r1", "alert,r1", "alert\tr1", "note x", "assess r1", "-", "count\n",
		strings.Repeat("x", 1000000), strings.Repeat("x ", 1000000),
	}
	for _, question := range malformed {
		s, e := tower.Answer(n(), l(), question)
		expectOnly(t, question[:min(20, len(question))], s, e, api.ErrSyntax)
	}
	// A name is everything after the blank.
	names := append(badNames(), "r2", "aa2", "l1", "con", "R1", "AA1", " r1", "r1 ", "r1 x", " aa1", "aa1 ", "aa1 x", "r1,r1", strings.Repeat("x", 1000000))
	for _, name := range names {
		for _, word := range []string{"profile", "alert", "slots", "released"} {
			s, e := tower.Answer(n(), l(), word+" "+name)
			expectOnly(t, word+" "+name[:min(20, len(name))], s, e, api.ErrMissing)
		}
	}
	for _, question := range []string{"profile aa1", "alert aa1", "slots aa1", "released r1"} {
		s, e := tower.Answer(n(), l(), question)
		expectOnly(t, question, s, e, api.ErrMissing)
	}
	for _, question := range []string{"released aa1", "released cc3"} {
		s, e := tower.Answer(n(), l()[:4], question)
		expectOnly(t, question, s, e, api.ErrMissing)
	}
}
