package fill

import (
	"maps"
	"math"
	"math/rand"
	"slices"
	"strconv"
	"strings"
	"testing"

	"pontoon/api"
	"pontoon/cache"
	"pontoon/vers"
)

// event is something that happened to tables: a write (+), a commit (-), or to all of them (!).
type event struct {
	what   byte
	client int
	names  []string
}

// touches tells whether an event changed one of some tables.
func (e event) touches(names []string) bool {
	return e.what == '!' || slices.ContainsFunc(e.names, func(name string) bool { return slices.Contains(names, name) })
}

// history is what happened to tables, from the beginning on: each answer is found by going over all of it.
type history []event

// num is a table's number.
func (h history) num(name string) int {
	n := 0
	for _, e := range h {
		if slices.Contains(e.names, name) {
			n++
		}
	}
	return n
}

// start is what Start tells.
func (h history) start(names []string) vers.Stamp {
	s := vers.Stamp{Names: slices.Clone(names)}
	for _, e := range h {
		if e.what == '!' {
			s.Epoch++
		}
	}
	for _, name := range names {
		s.Nums = append(s.Nums, h.num(name))
	}
	return s
}

// fresh tells whether a stamp is the one of now.
func (h history) fresh(s vers.Stamp) bool {
	return len(s.Names) == len(s.Nums) && stamp(h.start(s.Names)) == stamp(s)
}

// busy tells whether somebody is changing one of some tables: of a write of it there is no commit behind.
func (h history) busy(names []string) bool {
	clean := map[int]bool{}
	for _, e := range slices.Backward(h) {
		if e.what == '-' {
			clean[e.client] = true
		}
		if e.what == '+' && !clean[e.client] && e.touches(names) {
			return true
		}
	}
	return false
}

// filling is the Fill by which an entry came.
type filling struct {
	value string
	s     vers.Stamp
	at    int // its time
	when  int // how much had happened to tables by then
}

// model is a keep: a cache of its own lets its entries go, and tells their order.
type model struct {
	history
	answers *cache.Cache
	by      map[cache.Key]filling // of all that ever came
}

// copied is one of its own.
func (m *model) copied() *model {
	return &model{slices.Clone(m.history), m.answers.Copy(), maps.Clone(m.by)}
}

// fill is what Fill tells.
func (m *model) fill(k cache.Key, value string, s vers.Stamp, now int) (bool, api.Errno) {
	if !m.fresh(s) || m.busy(s.Names) {
		return false, api.OK
	}
	if _, err := m.answers.Put(k, value, now); err != api.OK {
		return false, err
	}
	m.by[k] = filling{value, vers.Stamp{Epoch: s.Epoch, Names: slices.Clone(s.Names), Nums: slices.Clone(s.Nums)}, now, len(m.history)}
	return true, api.OK
}

// look is what Look tells, and why.
func (m *model) look(k cache.Key, now int) (string, bool, string) {
	if !slices.Contains(m.answers.Keys(), k) {
		return "", false, "none"
	}
	if !m.fresh(m.by[k].s) {
		m.answers.Drop(k)
		return "", false, "stale"
	}
	if m.busy(m.by[k].s.Names) {
		return "", false, "busy"
	}
	value, ok := m.answers.Get(k, now)
	if !ok {
		return "", false, "late"
	}
	return value, true, "told"
}

// tally counts what was met, so that it is seen that the edges were.
type tally map[string]int

// walk is a keep with its model.
type walk struct {
	f      *Keep
	m      *model
	stamps []vers.Stamp // some that were taken
	now    int
	met    tally
}

// The walks' budgets, and time: few entries have room.
const (
	lawAll  = 130
	lawKept = 70
	lawMost = 60
	lawTtl  = 6
)

// lawNames is the tables of the walks.
var lawNames = []string{"", "a", "b", "c", "d", "e"}

// lawKeys is the keys of the walks: some that are nearly alike, and some that no cache takes.
var lawKeys = []cache.Key{{}, {Norm: "q"}, {Norm: "q", Format: 1}, {Db: "q"}, {Role: "q"}, {Norm: "r"}, {Norm: "q\x00"}, {Norm: "q", Format: 2}}

// oneOf is one of some.
func oneOf[T any](r *rand.Rand, l []T) T {
	return l[r.Intn(len(l))]
}

// anyNames is a list of few tables, some of which may be there twice.
func anyNames(r *rand.Rand) []string {
	var l []string
	for range r.Intn(3) {
		l = append(l, oneOf(r, lawNames))
	}
	return l
}

// anyKey is a key, seldom one that no cache takes.
func anyKey(r *rand.Rand) cache.Key {
	if r.Intn(8) > 0 {
		return oneOf(r, lawKeys[:6])
	}
	return oneOf(r, lawKeys)
}

// start takes a stamp.
func (w *walk) start(t *testing.T, r *rand.Rand) {
	t.Helper()
	l := anyNames(r)
	s := w.f.Start(l)
	if want := w.m.start(l); stamp(s) != stamp(want) {
		t.Fatalf("Start(%q) = %v, want %v", l, s, want)
	}
	w.stamps = append(w.stamps[max(0, len(w.stamps)-3):], s)
}

// anyStamp is a stamp that was taken, or, seldom, one that differs from it in one part.
func (w *walk) anyStamp(r *rand.Rand) vers.Stamp {
	s := oneOf(r, w.stamps)
	s.Names, s.Nums = slices.Clone(s.Names), slices.Clone(s.Nums)
	switch n := r.Intn(30); {
	case n == 0:
		s.Epoch += r.Intn(3) - 1
	case n == 1:
		s.Nums = append(s.Nums, 0)
	case n == 2 && len(s.Nums) > 0:
		s.Nums[0] += r.Intn(3) - 1
	case n == 3 && len(s.Names) > 0:
		s.Names[0] = oneOf(r, lawNames)
	}
	return s
}

// fill fills, and compares.
func (w *walk) fill(t *testing.T, r *rand.Rand) {
	t.Helper()
	k, s, value := anyKey(r), w.anyStamp(r), strings.Repeat(strconv.Itoa(r.Intn(10)), r.Intn(43))
	now := w.now
	if r.Intn(20) == 0 {
		now = oneOf(r, []int{-1, times + 1, times, 0, math.MaxInt, math.MinInt})
	}
	busy := w.m.busy(s.Names)
	got, err := w.f.Fill(k, value, s, now)
	want, errWant := w.m.fill(k, value, s, now)
	if got != want || err != errWant {
		t.Fatalf("Fill(%v, %q, %v, %d) = %t, %d, want %t, %d", k, value, s, now, got, err, want, errWant)
	}
	w.met["fill "+strconv.FormatBool(got)+" "+strconv.Itoa(int(err))+" "+strconv.FormatBool(busy)+" "+strconv.FormatBool(w.m.fresh(s))]++
}

// look looks up, compares, and asks whether what is told is honest.
func (w *walk) look(t *testing.T, r *rand.Rand) {
	t.Helper()
	k, now := anyKey(r), w.now
	if r.Intn(20) == 0 {
		now = oneOf(r, []int{0, -1, math.MaxInt, math.MinInt})
	}
	got, ok := w.f.Look(k, now)
	want, okWant, why := w.m.look(k, now)
	if got != want || ok != okWant {
		t.Fatalf("Look(%v, %d) = %q, %t, want %q, %t: %s", k, now, got, ok, want, okWant, why)
	}
	w.met["look "+why]++
	if !ok {
		return
	}
	by := w.m.by[k]
	changed := slices.ContainsFunc(w.m.history[by.when:], func(e event) bool { return e.touches(by.s.Names) })
	if got != by.value || now >= by.at+lawTtl || changed || w.m.busy(by.s.Names) {
		t.Fatalf("Look(%v, %d) = %q, which came by %v", k, now, got, by)
	}
}

// change lets something happen to tables.
func (w *walk) change(r *rand.Rand) {
	e := event{oneOf(r, []byte("++---")), r.Intn(3) - 1, anyNames(r)}
	if r.Intn(15) == 0 {
		e = event{what: '!'}
	}
	w.m.history = append(w.m.history, e)
	switch e.what {
	case '+':
		w.f.Write(e.client, e.names)
	case '-':
		w.f.Commit(e.client, e.names)
	default:
		w.f.All()
	}
}

// age lets time go on, and entries go.
func (w *walk) age(t *testing.T, r *rand.Rand) {
	t.Helper()
	if r.Intn(10) == 0 {
		want := len(w.m.answers.Keys())
		w.m.answers.Flush()
		if got := w.f.Flush(); got != want {
			t.Fatalf("Flush = %d, want %d", got, want)
		}
		w.met["flush "+strconv.Itoa(min(want, 2))]++
		return
	}
	w.now += r.Intn(3)
	want := len(w.m.answers.Tick(w.now))
	if got := w.f.Tick(w.now); got != want {
		t.Fatalf("Tick(%d) = %d, want %d", w.now, got, want)
	}
	w.met["tick "+strconv.Itoa(min(want, 2))]++
}

// step lets something happen.
func (w *walk) step(t *testing.T, r *rand.Rand) {
	t.Helper()
	switch n := r.Intn(20); {
	case n < 4:
		w.start(t, r)
	case n < 10:
		w.fill(t, r)
	case n < 16:
		w.look(t, r)
	case n < 18:
		w.change(r)
	case n < 19:
		w.age(t, r)
	default:
		w.now += r.Intn(3)
	}
}

// agrees asks whether a keep stands as its model does.
func (w *walk) agrees(t *testing.T) {
	t.Helper()
	all := w.m.answers.Keys()
	if got := w.f.answers.Keys(); !slices.Equal(got, all) {
		t.Fatalf("there is %v, want %v", got, all)
	}
	for _, k := range all {
		if got, want := w.f.stamps[k], w.m.by[k].s; stamp(got) != stamp(want) {
			t.Fatalf("the stamp of %v is %v, want %v", k, got, want)
		}
	}
	for _, name := range lawNames {
		if got, want := w.f.tables.Busy([]string{name}), w.m.busy([]string{name}); got != want {
			t.Fatalf("Busy of %q is %t, want %t", name, got, want)
		}
	}
	sane(t, w.f)
}

// P15.1 to P15.6: random steps, against a model
func TestLaws(t *testing.T) {
	r := rand.New(rand.NewSource(156))
	met := tally{}
	for range 500 {
		f, err := New(lawAll, lawKept, lawMost, lawTtl)
		answers, _ := cache.New(lawAll, lawKept, lawMost, lawTtl)
		if err != api.OK {
			t.Fatal(err)
		}
		w := &walk{f: f, m: &model{answers: answers, by: map[cache.Key]filling{}}, met: met}
		w.start(t, r)
		for range 120 {
			var left *walk
			if r.Intn(10) == 0 {
				other := *w
				left = &other
				w.f, w.m = w.f.Copy(), w.m.copied()
			}
			w.step(t, r)
			w.agrees(t)
			if left != nil {
				left.agrees(t)
				left.step(t, r)
				left.agrees(t)
				w.agrees(t)
			}
		}
	}
	for _, what := range []string{
		"fill true 0 false true", "fill false 0 false false", "fill false 0 true false", "fill false 0 true true", "fill false 1 false true", "fill false 2 false true",
		"look told", "look none", "look stale", "look late", "flush 0", "flush 1", "flush 2", "tick 0", "tick 1", "tick 2",
	} {
		if met[what] < 20 {
			t.Errorf("only %d of %q", met[what], what)
		}
	}
	// Whoever is changing a table has changed it since, so that no entry of it is fresh.
	if met["look busy"] > 0 {
		t.Errorf("%d were fresh, and busy", met["look busy"])
	}
}

// P15.6: what nobody changes stays, till its time has come
func TestStays(t *testing.T) {
	r := rand.New(rand.NewSource(6))
	f := full(t)
	fills(t, f, "z", "v", 5)
	for range 2000 {
		now := 5 + r.Intn(10)
		switch client := r.Intn(5); r.Intn(5) {
		case 0:
			f.Write(client, anyNames(r))
		case 1:
			f.Commit(client, anyNames(r))
		case 2:
			f.Look(key(oneOf(r, strings.Fields(queries))), now)
		case 3:
			query := oneOf(r, strings.Fields(queries))
			f.Fill(key(query), "w", f.Start(names(query)), now)
		case 4:
			f.Tick(now)
		}
		tells(t, f, "z", now, "v")
		tells(t, f.Copy(), "z", now, "v")
	}
	lacks(t, f, "z", 15)
}

// P15.1 to P15.6: many entries, and many tables: what is done with one takes no longer than among few
func TestMany(t *testing.T) {
	const n = 1 << 16
	f := keep(t, api.MaxBytes, api.MaxBytes/2, 1000, 10)
	for i := range n {
		query := strconv.Itoa(i)
		if ok, err := f.Fill(key(query), query, f.Start([]string{query, "all"}), 1+i%2); !ok || err != api.OK {
			t.Fatalf("Fill(%d) = %t, %d", i, ok, err)
		}
		if got, _ := f.Size(); got != i+1 {
			t.Fatalf("%d are there, want %d", got, i+1)
		}
	}
	sane(t, f)
	c := f.Copy()
	for i := range n {
		query := strconv.Itoa(i)
		if i%3 == 0 {
			f.Write(i, []string{query})
		}
		if got, ok := f.Look(key(query), 5); ok != (i%3 > 0) || ok && got != query {
			t.Fatalf("Look(%d) = %q, %t", i, got, ok)
		}
		f.Commit(i, nil)
		if got, _ := f.Size(); got != n-i/3-1 {
			t.Fatalf("behind %d, %d are there", i, got)
		}
	}
	sane(t, f)
	if got := c.Tick(11); got != n/2 {
		t.Errorf("Tick = %d", got)
	}
	c.Write(1, []string{"all"})
	for i := range n {
		if got, ok := c.Look(key(strconv.Itoa(i)), 5); ok {
			t.Fatalf("Look(%d) = %q", i, got)
		}
	}
	size(t, c, 0, 0)
	if got := f.Flush(); got != n-(n+2)/3 {
		t.Errorf("Flush = %d", got)
	}
	size(t, f, 0, 0)
}
