package sess

import (
	"math"
	"slices"
	"strconv"
	"strings"
	"testing"
	"unsafe"

	"pontoon/api"
)

// What happens is told, with what is answered, a line each:
//
//	start user=u database=d = 1 in 1   a first message of these pairs: what is to be done, and the phase then (or: 9, error 4 in 6)
//	cancel = 8 in 6
//	say Q = 3 in 3                     a message of that kind
//	accept = ok in 2                   the password was right (or: error 10 in 2)
//	refuse = error 14 in 6             it was wrong
//	done = ok in 2
//	fail = ok in 5
//	who = u of d                       the user and the database, as Go tells texts, if they are no plain words

// word is a text as a word.
func word(text string) string {
	if text == "" || strings.ContainsFunc(text, func(r rune) bool { return r < 'a' || r > 'z' }) {
		return strings.ReplaceAll(strconv.Quote(text), " ", `\x20`)
	}
	return text
}

// unword is the text of a word.
func unword(t *testing.T, word string) string {
	t.Helper()
	if !strings.HasPrefix(word, `"`) {
		return word
	}
	text, err := strconv.Unquote(word)
	if err != nil {
		t.Fatal(err)
	}
	return text
}

// start is a first message of pairs that are told.
func start(t *testing.T, pairs []string) api.Ask {
	t.Helper()
	var a api.Ask
	for _, p := range pairs {
		key, val, _ := strings.Cut(p, "=")
		a.Keys = append(a.Keys, unword(t, key))
		a.Vals = append(a.Vals, unword(t, val))
	}
	return a
}

// stepped is what Step answers, as text.
func stepped(do int, err api.Errno) string {
	text := strconv.Itoa(do)
	if err != api.OK {
		text += ", error " + strconv.Itoa(int(err))
	}
	return text
}

// done is what Accept, Done and Fail answer, as text.
func done(err api.Errno) string {
	if err == api.OK {
		return "ok"
	}
	return "error " + strconv.Itoa(int(err))
}

// does lets something happen: what is answered, as text, without the phase.
func does(t *testing.T, s *Sess, what string) string {
	t.Helper()
	words := strings.Fields(what)
	switch words[0] {
	case "start":
		return stepped(s.Step(start(t, words[1:])))
	case "cancel":
		return stepped(s.Step(api.Ask{Cancel: true, Pid: 1, Secret: 2}))
	case "say":
		return stepped(s.Step(api.Ask{Kind: words[1][0]}))
	case "accept", "refuse":
		return done(s.Accept(words[0] == "accept"))
	case "done":
		return done(s.Done())
	case "fail":
		return done(s.Fail())
	}
	t.Fatalf("there is no %q", what)
	return ""
}

// step lets something happen: what is answered, as text.
func step(t *testing.T, s *Sess, what string) string {
	t.Helper()
	if what == "who" {
		return word(s.User()) + " of " + word(s.Db())
	}
	return does(t, s, what) + " in " + strconv.Itoa(s.Phase())
}

// plays lets happen what lines tell, and checks what is answered.
func plays(t *testing.T, s *Sess, lines string) {
	t.Helper()
	for line := range strings.Lines(lines) {
		line = strings.TrimSpace(line)
		if line == "" {
			continue
		}
		what, want, _ := strings.Cut(line, " = ")
		before := full(s)
		if got := step(t, s, what); got != want {
			t.Errorf("%s = %s, want %s", what, got, want)
		}
		if after := full(s); (what == "who" || strings.HasPrefix(want, "error 10")) && after != before {
			t.Errorf("%s: there is %q, was %q", what, after, before)
		}
	}
}

// session is a new one, with what lines tell.
func session(t *testing.T, lines string) *Sess {
	t.Helper()
	s := New()
	if s == nil {
		t.Fatal("New = nil")
	}
	plays(t, s, lines)
	return s
}

// full is all that is kept of a session.
func full(s *Sess) string {
	return strconv.Itoa(s.phase) + " " + word(s.user) + " " + word(s.db)
}

// ways lead to each phase; each line is one.
var ways = [7][]string{
	before:   {""},
	asked:    {"start user=u = 1 in 1", "start user=u database=d = 1 in 1\nsay p = 2 in 1"},
	ready:    {in, in + "say S = 5 in 2", in + "say Q = 3 in 3\ndone = ok in 2", in + "say Q = 3 in 3\nfail = ok in 2", in + "say P = 4 in 4\nsay S = 5 in 2", in + "say P = 4 in 4\nfail = ok in 5\nsay S = 5 in 2"},
	running:  {in + "say Q = 3 in 3", in + "say Q = 3 in 3\nsay Q = 6 in 3", in + "say E = 4 in 4\nsay Q = 3 in 3"},
	inRow:    {in + "say P = 4 in 4", in + "say B = 4 in 4\nsay D = 4 in 4", in + "say Q = 3 in 3\ndone = ok in 2\nsay H = 4 in 4"},
	skipping: {in + "say P = 4 in 4\nfail = ok in 5", in + "say P = 4 in 4\nfail = ok in 5\nsay P = 7 in 5"},
	over: {
		"cancel = 8 in 6", "start = 9, error 4 in 6", "say Q = 9, error 4 in 6", "start user=u = 1 in 1\nsay Q = 9, error 10 in 6", "start user=u = 1 in 1\nrefuse = error 14 in 6",
		in + "say X = 9 in 6", in + "say p = 9, error 10 in 6", in + "say Q = 3 in 3\nsay X = 9 in 6", in + "say P = 4 in 4\nsay X = 9 in 6", in + "say P = 4 in 4\nsay z = 9, error 10 in 6", in + "say P = 4 in 4\nfail = ok in 5\nsay X = 9 in 6",
		in + "say X = 9 in 6\nsay X = 0, error 10 in 6",
	},
}

// in is how a client is let in.
const in = "start user=u database=d = 1 in 1\nsay p = 2 in 1\naccept = ok in 2\n"

// The example of the chapter
func TestExample(t *testing.T) {
	s := New()
	if do, err := s.Step(api.Ask{Keys: []string{"user"}, Vals: []string{"u"}}); do != 1 || err != api.OK {
		t.Errorf("a start = %d, %d", do, err)
	}
	if do, err := s.Step(api.Ask{Kind: 'p', Sql: "secret"}); do != 2 || err != api.OK {
		t.Errorf("p = %d, %d", do, err)
	}
	if err := s.Accept(true); err != api.OK {
		t.Errorf("Accept = %d", err)
	}
	if do, err := s.Step(api.Ask{Kind: 'P', Sql: "select 1"}); do != 4 || err != api.OK {
		t.Errorf("P = %d, %d", do, err)
	}
	if err := s.Fail(); err != api.OK {
		t.Errorf("Fail = %d", err)
	}
	if do, err := s.Step(api.Ask{Kind: 'E'}); do != 7 || err != api.OK {
		t.Errorf("E = %d, %d", do, err)
	}
	if do, err := s.Step(api.Ask{Kind: 'S'}); do != 5 || err != api.OK || s.Phase() != 2 {
		t.Errorf("S = %d, %d in %d", do, err, s.Phase())
	}
}

// P19.1, P19.3: a new one is before all, and nobody's
func TestNew(t *testing.T) {
	s := New()
	if s.Phase() != 0 || s.User() != "" || s.Db() != "" {
		t.Errorf("a new one is in %d, %q of %q", s.Phase(), s.User(), s.Db())
	}
	plays(t, s, in+"say Q = 3 in 3")
	if other := New(); other == s || other.Phase() != 0 || other.User() != "" || other.Db() != "" {
		t.Errorf("another one is in %d, %q of %q", other.Phase(), other.User(), other.Db())
	}
}

// P19.1: who starts, and which database is wanted
func TestStart(t *testing.T) {
	for _, c := range []struct{ pairs, who string }{
		{"user=u", "u of u"},
		{"user=u database=d", "u of d"},
		{"database=d user=u", "u of d"},
		{"user=u database=", "u of u"},
		{"database= user=u", "u of u"},
		{"user=u user=v", "u of u"},
		{"user=u user=", "u of u"},
		{"database=d user=u user=w", "u of d"},
		{"user=u database=d database=e", "u of d"},
		{"user=u database= database=e", "u of u"},
		{"database=e user=u database=d", "u of e"},
		{"a=b user=u c=d database=f database=g x=y user=z", "u of f"},
		{"User=v user=u Database=d", "u of u"},
		{"USER=v user=u DATABASE=d", "u of u"},
		{"use=v users=w user=u databas=d databases=e", "u of u"},
		{`"user\x00"=v user=u "\x20database"=d`, "u of u"},
		{`user="\x20" database="\x00"`, `"\x20" of "\x00"`},
		{`user="\xff" database="\xfe"`, `"\xff" of "\xfe"`},
		{"user=user database=database", "user of database"},
		{"options=user user=u replication=database", "u of u"},
		{`user="database" database="user"`, "database of user"},
		{`user="A=b"`, `"A=b" of "A=b"`},
	} {
		s := session(t, "start "+c.pairs+" = 1 in 1\nwho = "+c.who)
		// Who it is stays so, whatever comes.
		plays(t, s, "say p = 2 in 1\nwho = "+c.who+"\naccept = ok in 2\nwho = "+c.who+"\nstart user=x database=y = 9, error 10 in 6\nwho = "+c.who)
	}
	long := strings.Repeat("u", 5000)
	s := New()
	if do, err := s.Step(api.Ask{Keys: []string{"user", "database"}, Vals: []string{long, long + "d"}}); do != 1 || err != api.OK || s.User() != long || s.Db() != long+"d" {
		t.Errorf("a long start = %d, %d, %q of %q", do, err, s.User(), s.Db())
	}
}

// P19.1: what is no start ends all
func TestNoStart(t *testing.T) {
	for _, pairs := range []string{
		"", "database=d", "user=", "user= user=u", "database=d user= user=u", "User=u", "USER=u", "users=u", "use=u", `"user\x00"=u`, `""=u`, "a=user", "database=user", "a=b c=d",
	} {
		plays(t, New(), "start "+pairs+" = 9, error 4 in 6\nwho = \"\" of \"\"\nstart user=u = 0, error 10 in 6\nwho = \"\" of \"\"")
	}
}

// P19.1: a start with fewer values than keys, or more, which no message tells
func TestUnevenStart(t *testing.T) {
	for i, c := range []struct {
		keys, vals []string
		do         int
		err        api.Errno
		phase      int
		who        string
	}{
		{[]string{"user"}, nil, 9, api.ErrForm, 6, `"" of ""`},
		{[]string{"a", "user"}, []string{"b"}, 9, api.ErrForm, 6, `"" of ""`},
		{[]string{"user", "database"}, []string{"u"}, 1, api.OK, 1, "u of u"},
		{[]string{"user", "a", "database"}, []string{"u", "d"}, 1, api.OK, 1, "u of u"},
		{nil, []string{"u", "d"}, 9, api.ErrForm, 6, `"" of ""`},
		{[]string{"user"}, []string{"u", "d"}, 1, api.OK, 1, "u of u"},
		{[]string{}, []string{}, 9, api.ErrForm, 6, `"" of ""`},
	} {
		s := New()
		if do, err := s.Step(api.Ask{Keys: c.keys, Vals: c.vals}); do != c.do || err != c.err || s.Phase() != c.phase || word(s.User())+" of "+word(s.Db()) != c.who {
			t.Errorf("%d: %d, %d in %d, %q of %q", i, do, err, s.Phase(), s.User(), s.Db())
		}
	}
}

// P19.1: a first message that cancels, whatever else it has; one of another kind doesn't
func TestCancel(t *testing.T) {
	for i, a := range []api.Ask{
		{Cancel: true},
		{Cancel: true, Pid: math.MinInt, Secret: math.MaxInt},
		{Cancel: true, Keys: []string{"user", "database"}, Vals: []string{"u", "d"}},
		{Cancel: true, Keys: []string{"user"}},
	} {
		s := New()
		if do, err := s.Step(a); do != 8 || err != api.OK || s.Phase() != 6 || s.User() != "" || s.Db() != "" {
			t.Errorf("%d: %d, %d in %d, %q of %q", i, do, err, s.Phase(), s.User(), s.Db())
		}
		a.Kind = 'Q'
		s = New()
		if do, err := s.Step(a); do != 9 || err != api.ErrForm || s.Phase() != 6 || s.User() != "" {
			t.Errorf("%d: Q = %d, %d in %d, %q", i, do, err, s.Phase(), s.User())
		}
	}
}

// wanted is what a message of a kind lets do in a phase, which is the chapter's text once more: what is to be done, the error, the phase then.
func wanted(phase int, a api.Ask) (int, api.Errno, int) {
	kind := a.Kind
	is := func(kinds string) bool { return strings.IndexByte(kinds, kind) >= 0 }
	named := kind == 0 && len(a.Vals) > 0
	switch {
	case phase == 6:
		return 0, api.ErrState, 6
	case phase == 0 && kind == 0 && a.Cancel:
		return 8, api.OK, 6
	case phase == 0 && named:
		return 1, api.OK, 1
	case phase == 0:
		return 9, api.ErrForm, 6
	case phase == 1 && is("p"):
		return 2, api.OK, 1
	case phase == 1:
		return 9, api.ErrState, 6
	case is("X"):
		return 9, api.OK, 6
	case phase == 3:
		return 6, api.OK, 3
	case is("S"):
		return 5, api.OK, 2
	case phase == 5:
		return 7, api.OK, 5
	case is("Q"):
		return 3, api.OK, 3
	case is("PBDECH"):
		return 4, api.OK, 4
	}
	return 9, api.ErrState, 6
}

// P19.1: each kind in each phase, whichever way that was come to, whatever else the message has
func TestStep(t *testing.T) {
	user := []string{"user"}
	for phase, lines := range ways {
		for _, way := range lines {
			s := session(t, way)
			if s.Phase() != phase {
				t.Errorf("%q leads to %d, want %d", way, s.Phase(), phase)
			}
			for kind := range 256 {
				for i, a := range []api.Ask{{}, {Cancel: true}, {Keys: user, Vals: []string{"w"}}, {Cancel: true, Keys: user, Vals: []string{"w"}}, {Name: "n", Portal: "p", Sql: "q", Keys: user, Args: user, Null: []bool{true}, Formats: []int{1}, Most: 1, What: 'S', Pid: 1, Secret: 1}} {
					a.Kind = byte(kind)
					s := s.Copy()
					do, err := s.Step(a)
					if wantDo, wantErr, then := wanted(phase, a); do != wantDo || err != wantErr || s.Phase() != then {
						t.Errorf("%q, %q, %d: Step = %d, %d in %d, want %d, %d in %d", way, a.Kind, i, do, err, s.Phase(), wantDo, wantErr, then)
					}
				}
			}
		}
	}
}

// P19.2: what is told of a password, a query and a fault, in each phase
func TestTold(t *testing.T) {
	for phase, want := range [7]string{
		before:   "accept = error 10 in 0, refuse = error 10 in 0, done = error 10 in 0, fail = error 10 in 0",
		asked:    "accept = ok in 2, refuse = error 14 in 6, done = error 10 in 1, fail = error 10 in 1",
		ready:    "accept = error 10 in 2, refuse = error 10 in 2, done = error 10 in 2, fail = error 10 in 2",
		running:  "accept = error 10 in 3, refuse = error 10 in 3, done = ok in 2, fail = ok in 2",
		inRow:    "accept = error 10 in 4, refuse = error 10 in 4, done = error 10 in 4, fail = ok in 5",
		skipping: "accept = error 10 in 5, refuse = error 10 in 5, done = error 10 in 5, fail = error 10 in 5",
		over:     "accept = error 10 in 6, refuse = error 10 in 6, done = error 10 in 6, fail = error 10 in 6",
	} {
		for _, way := range ways[phase] {
			for line := range strings.SplitSeq(want, ", ") {
				s := session(t, way)
				who := step(t, s, "who")
				plays(t, s, line+"\nwho = "+who)
			}
		}
	}
}

// P19.1, P19.2: some ways through
func TestThrough(t *testing.T) {
	for _, lines := range []string{
		"say p = 2 in 1\nsay p = 2 in 1\naccept = ok in 2\naccept = error 10 in 2",
		"accept = ok in 2\nsay Q = 3 in 3",
		"say p = 2 in 1\nrefuse = error 14 in 6\naccept = error 10 in 6\nsay p = 0, error 10 in 6",
		"refuse = error 14 in 6\nrefuse = error 10 in 6",
		"accept = ok in 2\nsay Q = 3 in 3\nsay P = 6 in 3\nsay S = 6 in 3\ndone = ok in 2\nsay P = 4 in 4\nsay S = 5 in 2\ndone = error 10 in 2",
		"accept = ok in 2\nsay P = 4 in 4\nsay B = 4 in 4\nsay D = 4 in 4\nsay E = 4 in 4\nsay C = 4 in 4\nsay H = 4 in 4\nsay S = 5 in 2\nfail = error 10 in 2",
		"accept = ok in 2\nsay P = 4 in 4\nfail = ok in 5\nfail = error 10 in 5\nsay Q = 7 in 5\nsay p = 7 in 5\nstart user=x = 7 in 5\ncancel = 7 in 5\nsay S = 5 in 2\nsay S = 5 in 2",
		"accept = ok in 2\nsay P = 4 in 4\nsay Q = 3 in 3\nfail = ok in 2\nsay E = 4 in 4\nfail = ok in 5\nsay X = 9 in 6\nfail = error 10 in 6",
		"accept = ok in 2\nsay Q = 3 in 3\nstart user=x = 6 in 3\ncancel = 6 in 3\nsay p = 6 in 3\nsay X = 9 in 6\ndone = error 10 in 6",
		"start user=x database=y = 9, error 10 in 6\nwho = u of d",
		"cancel = 9, error 10 in 6\nwho = u of d",
		"accept = ok in 2\ncancel = 9, error 10 in 6\nwho = u of d",
		"say X = 9, error 10 in 6",
	} {
		session(t, "start user=u database=d = 1 in 1\n"+lines)
	}
}

// changes is what may happen to a session of TestCopy.
var changes = []string{
	"start user=x = ", "start = ", "cancel = ", "say p = ", "say Q = ", "say P = ", "say S = ", "say X = ", "say z = ", "accept = ", "refuse = ", "done = ", "fail = ",
}

// P19.3: a copy stands there, and goes its own way
func TestCopy(t *testing.T) {
	for phase, lines := range ways {
		for _, way := range lines {
			for _, first := range changes {
				for _, second := range changes {
					s := session(t, way)
					begin := full(s)
					c := s.Copy()
					if c == s || c.Phase() != phase || c.User() != s.User() || c.Db() != s.Db() {
						t.Fatalf("a copy has %q, want %q", full(c), begin)
					}
					does(t, c, first)
					left := full(c)
					if got := full(s); got != begin {
						t.Errorf("%s: the session became %q, was %q", first, got, begin)
					}
					d := c.Copy().Copy()
					does(t, s, second)
					right := full(s)
					does(t, c, second)
					if full(d) != left || full(s) != right {
						t.Errorf("%s, %s: there are %q and %q, want %q and %q", first, second, full(d), full(s), left, right)
					}
				}
			}
		}
	}
	plays(t, New().Copy(), "who = \"\" of \"\"\n"+in+"who = u of d")
}

// P19.1: what is kept of texts shares no memory with what was handed in, which stays as it is
func TestHandedIn(t *testing.T) {
	user, db := []byte("u"), []byte("d")
	s := New()
	keys := []string{"user", "database", "user"}
	vals := []string{unsafe.String(&user[0], 1), unsafe.String(&db[0], 1), "w"}
	room := append(slices.Clone(vals), "spare")
	s.Step(api.Ask{Keys: keys, Vals: room[:3]})
	if !slices.Equal(keys, []string{"user", "database", "user"}) || !slices.Equal(room, append(slices.Clone(vals), "spare")) {
		t.Errorf("there are %q and %q", keys, room)
	}
	keys[0], room[0], room[1] = "x", "x", "x"
	user[0], db[0] = 'x', 'x'
	plays(t, s, "who = u of d")
	user[0] = 'u'
	s = New()
	s.Step(api.Ask{Keys: []string{"user"}, Vals: []string{unsafe.String(&user[0], 1)}})
	user[0] = 'x'
	plays(t, s, "who = u of u")
}

// copyOf is a struct's copy.
func copyOf(s *Sess) *Sess {
	c := *s
	return &c
}

// A nil session, and those that New did not give
func TestForeign(t *testing.T) {
	s := session(t, in+"say Q = 3 in 3")
	asked := session(t, "start user=u = 1 in 1")
	before := full(s)
	for _, f := range []*Sess{nil, {}, new(Sess), copyOf(s), copyOf(s.Copy()), copyOf(asked), {self: s}, {self: s, phase: 3, user: "u", db: "d"}, {phase: 4, user: "u", db: "d"}, {phase: 7}, {phase: -1}, {phase: math.MaxInt}} {
		for _, what := range changes {
			want := "error 12"
			if strings.HasPrefix(what, "s") || strings.HasPrefix(what, "cancel") {
				want = "0, error 12"
			}
			if got := step(t, f, what); got != want+" in 0" {
				t.Errorf("%s%s", what, got)
			}
		}
		if got := step(t, f, "who"); got != `"" of ""` {
			t.Errorf("who = %s", got)
		}
		if c := f.Copy(); c != nil {
			t.Errorf("Copy = %v", c)
		}
	}
	if got := full(s); got != before {
		t.Errorf("there is %q, was %q", got, before)
	}
	plays(t, s, "who = u of d\ndone = ok in 2")
}
