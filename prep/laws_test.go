package prep

import (
	"math"
	"math/rand"
	"slices"
	"strconv"
	"strings"
	"sync"
	"testing"

	"pontoon/api"
)

// What an event is.
const (
	defined = iota
	closed
	left
	needs
	forgot
)

// event is something that happened, and was not refused.
type event struct {
	what, who int
	name, sql string
}

// model is what happened, from the beginning on: each answer is found by going over all of it.
type model []event

// find is what Find tells: the last event that touched the client's statement of that name defined it.
func (m model) find(client int, name string) (string, bool) {
	for _, e := range slices.Backward(m) {
		if e.who != client || e.what > left || e.what != left && e.name != name {
			continue
		}
		return e.sql, e.what == defined
	}
	return "", false
}

// leave is what Leave tells.
func (m model) leave(client int) int {
	n := 0
	for _, name := range lawNames {
		if _, ok := m.find(client, name); ok {
			n++
		}
	}
	return n
}

// name is a text's name: how many others were needed first.
func (m model) name(sql string) string {
	var texts []string
	for _, e := range m {
		if e.what == needs && !slices.Contains(texts, e.sql) {
			texts = append(texts, e.sql)
		}
	}
	at := slices.Index(texts, sql)
	if at < 0 {
		at = len(texts)
	}
	return "s" + strconv.Itoa(at+1)
}

// has is what Has tells.
func (m model) has(conn int) []string {
	var names []string
	for _, e := range m {
		if e.who != conn {
			continue
		}
		if e.what == forgot {
			names = nil
		}
		if e.what == needs && !slices.Contains(names, m.name(e.sql)) {
			names = append(names, m.name(e.sql))
		}
	}
	return names
}

// tally counts what was met, so that it is seen that the edges were.
type tally map[string]int

// pair is a book with its model.
type pair struct {
	b   *Book
	m   model
	met tally
}

// The names, texts and numbers of the walks.
var (
	lawNames   = []string{"", "a", "b", "\x00", "s1"}
	lawTexts   = []string{"a", "", "b", "\xff", "s1", "s2", "a\x00"}
	lawNumbers = []int{0, 1, 2, -1, 1<<32 + 1, math.MaxInt, math.MinInt}
)

// same compares what was told.
func (w *pair) same(t *testing.T, what, got, want string) {
	t.Helper()
	if got != want {
		t.Fatalf("%s = %s, want %s", what, got, want)
	}
	w.met[what+" "+got]++
}

// define lets a client have a statement, and compares.
func (w *pair) define(t *testing.T, e event, long bool) {
	t.Helper()
	want := api.OK
	_, is := w.m.find(e.who, e.name)
	switch {
	case long:
		e.sql = strings.Repeat("x", api.MaxSql+1)
		want = api.ErrBig
	case is && e.name != "":
		want = api.ErrTwice
	default:
		w.m = append(w.m, e)
	}
	w.same(t, "define "+strconv.FormatBool(is)+" "+strconv.FormatBool(e.name == ""), done(w.b.Define(e.who, e.name, e.sql)), done(want))
}

// step lets something happen to a book and its model, and compares what both tell.
func (w *pair) step(t *testing.T, r *rand.Rand, much int) {
	t.Helper()
	e := event{who: lawNumbers[r.Intn(len(lawNumbers))%much]}
	name, sql := lawNames[r.Intn(len(lawNames))], lawTexts[r.Intn(len(lawTexts))]
	switch n := r.Intn(40); {
	case n < 14:
		e.name, e.sql = name, sql
		w.define(t, e, n < 2)
		return
	case n < 20:
		e.what, e.name = closed, name
		_, ok := w.m.find(e.who, name)
		w.same(t, "close", yes(w.b.Close(e.who, name)), yes(ok))
	case n < 22:
		e.what = left
		w.same(t, "leave", strconv.Itoa(w.b.Leave(e.who)), strconv.Itoa(w.m.leave(e.who)))
	case n < 37:
		e.what, e.sql = needs, sql
		want := w.m.name(sql)
		w.same(t, "need", needed(w.b.Need(e.who, sql)), needed(want, !slices.Contains(w.m.has(e.who), want)))
	default:
		e.what = forgot
		w.same(t, "forget", strconv.Itoa(w.b.Forget(e.who)), strconv.Itoa(len(w.m.has(e.who))))
	}
	w.m = append(w.m, e)
}

// agrees asks whether a book tells what its model does.
func (w *pair) agrees(t *testing.T) {
	t.Helper()
	for _, who := range lawNumbers {
		for _, name := range append(lawNames, "c") {
			w.same(t, "find", found(w.b.Find(who, name)), found(w.m.find(who, name)))
		}
		w.same(t, "has", strings.Join(w.b.Has(who), " "), strings.Join(w.m.has(who), " "))
	}
	sane(t, w.b)
}

// P18.1 to P18.4: random steps of a book, and of copies of it, against models
func TestLaws(t *testing.T) {
	r := rand.New(rand.NewSource(184))
	met := tally{}
	for i := range 150 {
		all := []*pair{{New(), nil, met}}
		for range 80 {
			w := all[r.Intn(len(all))]
			if r.Intn(15) == 0 {
				w = &pair{w.b.Copy(), slices.Clone(w.m), met}
				all = append(all[max(0, len(all)-1):], w)
			}
			w.step(t, r, 1+i%len(lawNumbers))
			for _, w := range all {
				w.agrees(t)
			}
		}
	}
	for _, what := range []string{
		"define false false ok", "define false true ok", "define true true ok", "define true false error 9", "define true false error 2", "define true true error 2", "define false false error 2",
		"close yes", "close no", "leave 0", "leave 1", "leave 2", "leave 3", "need s1 new", "need s1", "need s2", "need s7 new", "need s7", "forget 0", "forget 1", "forget 2", "forget 5", "find no", "find a", "find s2", "has ", "has s1 s2 s3", "has s2 s1",
	} {
		if met[what] < 20 {
			t.Errorf("only %d of %q", met[what], what)
		}
	}
}

// P18.4: a text has one name on all connections, and no two texts have the same; what a connection has need not be prepared again
func TestOneName(t *testing.T) {
	b := New()
	texts := map[string]string{}
	names := map[string]string{}
	r := rand.New(rand.NewSource(4))
	for range 30000 {
		conn, sql := r.Intn(20), strconv.Itoa(r.Intn(500))
		had := b.Has(conn)
		name, fresh := b.Need(conn, sql)
		if fresh == slices.Contains(had, name) {
			t.Fatalf("Need(%d, %q) = %q, %t, had %q", conn, sql, name, fresh, had)
		}
		if _, is := texts[name]; !is {
			texts[name] = sql
		}
		if _, is := names[sql]; !is {
			names[sql] = name
		}
		if texts[name] != sql || names[sql] != name {
			t.Fatalf("%q is the name of %q, and %q that of %q", names[sql], sql, name, texts[name])
		}
		if r.Intn(50) == 0 {
			b.Forget(conn)
		}
	}
	sane(t, b)
	if len(names) != 500 {
		t.Errorf("there are %d names", len(names))
	}
}

// P18.1, P18.2: many clients and connections, and many of one: what is done with one takes no longer than among few
func TestMany(t *testing.T) {
	const n = 1 << 17
	b := New()
	for i := range n {
		text := strconv.Itoa(i)
		for _, client := range []int{i, -1} {
			if err := b.Define(client, text, text); err != api.OK {
				t.Fatalf("Define(%d, %q) = %d", client, text, err)
			}
		}
		for _, conn := range []int{i, -1} {
			if name, fresh := b.Need(conn, text); name != "s"+strconv.Itoa(i+1) || !fresh {
				t.Fatalf("Need(%d, %q) = %q, %t", conn, text, name, fresh)
			}
		}
	}
	sane(t, b)
	all := b.Has(-1)
	for i := range n {
		text := strconv.Itoa(i)
		if sql, ok := b.Find(-1, text); sql != text || !ok || all[i] != "s"+strconv.Itoa(i+1) {
			t.Fatalf("the %d. is %q, %q", i, sql, all[i])
		}
		if i%2 == 0 && (!b.Close(-1, text) || b.Leave(i) != 1 || b.Forget(i) != 1) {
			t.Fatalf("%d had none", i)
		}
		if name, fresh := b.Need(i, text); name != all[i] || fresh != (i%2 == 0) {
			t.Fatalf("Need(%d, %q) = %q, %t", i, text, name, fresh)
		}
	}
	sane(t, b)
	if got := b.Leave(-1); got != n/2 {
		t.Errorf("%d were left", got)
	}
	if got := b.Forget(-1); got != n {
		t.Errorf("%d were forgotten", got)
	}
	sane(t, b)
}

// P18.3: a book and its copies only read what they share, so that they may go on side by side
func TestSideBySide(t *testing.T) {
	b := New()
	for i := range 40 {
		text := strconv.Itoa(i)
		b.Define(i%4, text, text)
		b.Need(i%4, text)
	}
	books := []*Book{b}
	for range 7 {
		books = append(books, books[len(books)-1].Copy())
	}
	var all sync.WaitGroup
	for i, b := range books {
		all.Go(func() {
			for n := range 60 {
				text := strconv.Itoa(n + i)
				b.Define(n%5, text, text)
				b.Define(n%5, "", text)
				b.Close(n%5, strconv.Itoa(n))
				b.Need(n%5, text)
				b.Find(n%5, text)
				b.Has(n % 5)
			}
			b.Leave(i % 5)
			b.Forget(i % 5)
		})
	}
	all.Wait()
	for _, b := range books {
		sane(t, b)
	}
}
