package sess

import (
	"math/rand"
	"slices"
	"strconv"
	"strings"
	"sync"
	"testing"

	"pontoon/api"
)

// What happens in the walks: what each lets do, as in the script of the other tests.
var lawSteps = []string{
	"start user=u database=d", "start user=v", "start database=d", "start user=", "start user=u database= database=e", "cancel",
	"say p", "say p", "say p", "say Q", "say P", "say B", "say D", "say E", "say C", "say H", "say S", "say X", "say z", "say R",
	"accept", "accept", "accept", "refuse", "done", "done", "fail", "fail",
}

// model is all that happened, from the beginning on, of what had an answer that was no refusal of its state.
type model []string

// has tells whether something of that beginning happened.
func (m model) has(what string) bool {
	return slices.ContainsFunc(m, func(s string) bool { return strings.HasPrefix(s, what) })
}

// since is what happened behind the last one of some beginnings; all, if there is none.
func (m model) since(whats ...string) model {
	for i, s := range slices.Backward(m) {
		for _, what := range whats {
			if strings.HasPrefix(s, what) {
				return m[i+1:]
			}
		}
	}
	return m
}

// phase is found by going over what happened.
func (m model) phase() int {
	in := m.since("accept")
	// What ends a row of messages, or a query, and what makes one.
	row := in.since("say S", "done")
	switch {
	case m.has("end"):
		return 6
	case !m.has("start"):
		return 0
	case !m.has("accept"):
		return 1
	case row.has("fault"):
		return 5
	case row.has("say Q"):
		return 3
	case len(row) > 0:
		return 4
	}
	return 2
}

// answer is what a step lets do, and what is noted of it; nothing, if it is refused or changes nothing.
func (m model) answer(what string) (string, []string) {
	phase := m.phase()
	switch {
	case strings.HasPrefix(what, "say") || strings.HasPrefix(what, "start") || what == "cancel":
		return m.said(phase, what)
	case phase == 1 && what == "accept":
		return "ok", []string{what}
	case phase == 1 && what == "refuse":
		return "error 14", []string{"end"}
	case phase == 3 && (what == "done" || what == "fail"):
		return "ok", []string{"done"}
	case phase == 4 && what == "fail":
		return "ok", []string{"fault"}
	}
	return "error 10", nil
}

// said is what a message lets do, and what is noted of it.
func (m model) said(phase int, what string) (string, []string) {
	switch {
	case phase == 6:
		return "0, error 10", nil
	case phase == 0 && what == "cancel":
		return "8", []string{"end"}
	case phase == 0 && strings.HasPrefix(what, "start user=") && what != "start user=":
		return "1", []string{what}
	case phase == 0:
		return "9, error 4", []string{"end"}
	case phase == 1 && what == "say p":
		return "2", nil
	case phase > 1 && what == "say X":
		return "9", []string{"end"}
	case phase == 3:
		return "6", nil
	case phase > 1 && what == "say S":
		return "5", []string{what}
	case phase == 5:
		return "7", nil
	case phase > 1 && what == "say Q":
		return "3", []string{what}
	case phase > 1 && strings.HasPrefix(what, "say") && strings.ContainsAny(what[4:], "PBDECH"):
		return "4", []string{what}
	}
	return "9, error 10", []string{"end"}
}

// who is the user and the database of the start that there was.
func (m model) who() string {
	for _, s := range m {
		switch s {
		case lawSteps[0]:
			return "u of d"
		case lawSteps[1]:
			return "v of v"
		case lawSteps[4]:
			return "u of u"
		}
	}
	return `"" of ""`
}

// pair is a session with its model.
type pair struct {
	s *Sess
	m model
}

// step lets something happen to both, and compares what they tell.
func (w *pair) step(t *testing.T, what string, met map[string]int) {
	t.Helper()
	phase := w.m.phase()
	want, noted := w.m.answer(what)
	w.m = append(w.m, noted...)
	if got := does(t, w.s, what); got != want {
		t.Fatalf("%s in %d = %s, want %s", what, phase, got, want)
	}
	met[what+" in "+strconv.Itoa(phase)]++
}

// agrees asks whether a session tells what its model does.
func (w *pair) agrees(t *testing.T) {
	t.Helper()
	if phase := w.s.Phase(); phase != w.m.phase() {
		t.Fatalf("the phase is %d, want %d", phase, w.m.phase())
	}
	if who := step(t, w.s, "who"); who != w.m.who() {
		t.Fatalf("it is %s, want %s", who, w.m.who())
	}
}

// P19.1 to P19.4: random steps of a session, and of copies of it, against models
func TestLaws(t *testing.T) {
	r := rand.New(rand.NewSource(194))
	met := map[string]int{}
	for range 6000 {
		all := []*pair{{New(), nil}}
		for range 40 {
			w := all[r.Intn(len(all))]
			if r.Intn(10) == 0 {
				w = &pair{w.s.Copy(), slices.Clone(w.m)}
				all = append(all[max(0, len(all)-2):], w)
			}
			what := lawSteps[r.Intn(len(lawSteps))]
			// What ends all is done seldom, so that there is a walk.
			if _, noted := w.m.answer(what); slices.Contains(noted, "end") && r.Intn(8) > 0 {
				continue
			}
			w.step(t, what, met)
			for _, w := range all {
				w.agrees(t)
			}
		}
	}
	for phase := range 7 {
		for _, what := range lawSteps {
			if n := met[what+" in "+strconv.Itoa(phase)]; n < 20 {
				t.Errorf("only %d of %s in %d", n, what, phase)
			}
		}
	}
}

// P19.4: what is over stays over, and who it was stays too
func TestOver(t *testing.T) {
	for _, way := range ways[over] {
		s := session(t, way)
		begin := full(s)
		for kind := range 256 {
			for _, cancel := range []bool{false, true} {
				if do, err := s.Step(api.Ask{Kind: byte(kind), Cancel: cancel, Keys: []string{"user"}, Vals: []string{"w"}}); do != 0 || err != api.ErrState {
					t.Errorf("%q: %q = %d, %d", way, byte(kind), do, err)
				}
			}
		}
		for _, what := range lawSteps {
			if got := does(t, s, what); got != "error 10" && got != "0, error 10" {
				t.Errorf("%q: %s = %s", way, what, got)
			}
		}
		if got := full(s); got != begin {
			t.Errorf("%q: there is %q, was %q", way, got, begin)
		}
	}
}

// P19.4: a client who skips is ready after a sync, whatever was skipped
func TestSkip(t *testing.T) {
	r := rand.New(rand.NewSource(5))
	for range 2000 {
		s := session(t, ways[skipping][r.Intn(len(ways[skipping]))])
		for range r.Intn(20) {
			kind := byte(r.Intn(256))
			if kind == 'S' || kind == 'X' {
				continue
			}
			if do, err := s.Step(api.Ask{Kind: kind, Cancel: r.Intn(2) == 0}); do != 7 || err != api.OK || s.Phase() != 5 {
				t.Fatalf("%q = %d, %d in %d", kind, do, err, s.Phase())
			}
			if s.Accept(true) != api.ErrState || s.Done() != api.ErrState || s.Fail() != api.ErrState {
				t.Fatal("what is told while a client skips is not refused")
			}
		}
		plays(t, s, "say S = 5 in 2\nsay Q = 3 in 3\ndone = ok in 2\nsay P = 4 in 4")
	}
}

// P19.1: a start of many pairs takes as long as they are
func TestMany(t *testing.T) {
	const n = 1 << 18
	keys, vals := make([]string, n), make([]string, n)
	for i := range n {
		keys[i], vals[i] = "k"+strconv.Itoa(i), "v"
	}
	keys[n-2], keys[n-1] = "database", "user"
	s := New()
	if do, err := s.Step(api.Ask{Keys: keys, Vals: vals}); do != 1 || err != api.OK || s.User() != "v" || s.Db() != "v" {
		t.Errorf("a start = %d, %d, %q of %q", do, err, s.User(), s.Db())
	}
	s.Accept(true)
	for range n {
		if do, _ := s.Step(api.Ask{Kind: 'Q'}); do != 3 || s.Done() != api.OK {
			t.Fatalf("Q = %d in %d", do, s.Phase())
		}
	}
}

// P19.3: a session and its copies only read what they share, so that they may go on side by side
func TestSideBySide(t *testing.T) {
	s := session(t, in)
	sessions := []*Sess{s}
	for range 7 {
		sessions = append(sessions, sessions[len(sessions)-1].Copy())
	}
	var all sync.WaitGroup
	for i, s := range sessions {
		all.Go(func() {
			for range 60 {
				s.Step(api.Ask{Kind: "QPSE"[i%4]})
				s.Done()
				s.Fail()
				s.User()
			}
			s.Step(api.Ask{Kind: 'S'})
		})
	}
	all.Wait()
	for _, s := range sessions {
		plays(t, s, "who = u of d\nsay S = 5 in 2")
	}
}
