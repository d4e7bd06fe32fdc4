package vers

import (
	"math"
	"math/rand"
	"slices"
	"strconv"
	"testing"
)

// What an event is.
const (
	bumped = iota
	allBumped
	madeDirty
	madeClean
)

// event is something that happened.
type event struct {
	what   int
	client int
	names  []string
}

// model is what happened, from the beginning on: each answer is found by going over all of it.
type model []event

// num is what Num tells.
func (m model) num(name string) int {
	n := 0
	for _, e := range m {
		if e.what == bumped && slices.Contains(e.names, name) {
			n++
		}
	}
	return n
}

// epoch is a stamp's epoch.
func (m model) epoch() int {
	n := 0
	for _, e := range m {
		if e.what == allBumped {
			n++
		}
	}
	return n
}

// busy is what Busy tells: of some name there is an event that made it dirty, and none behind that made that client clean.
func (m model) busy(names []string) bool {
	clean := map[int]bool{}
	for _, e := range slices.Backward(m) {
		if e.what == madeClean {
			clean[e.client] = true
		}
		if e.what == madeDirty && !clean[e.client] && slices.ContainsFunc(e.names, func(name string) bool { return slices.Contains(names, name) }) {
			return true
		}
	}
	return false
}

// fresh is what Fresh tells.
func (m model) fresh(s Stamp) bool {
	if s.Epoch != m.epoch() || len(s.Names) != len(s.Nums) {
		return false
	}
	for i, name := range s.Names {
		if m.num(name) != s.Nums[i] {
			return false
		}
	}
	return true
}

// unchanged is what P13.5 asks of a stamp of names that was taken when so much had happened.
func (m model) unchanged(names []string, when int) bool {
	for _, e := range m[when:] {
		if e.what == allBumped || e.what == bumped && slices.ContainsFunc(e.names, func(name string) bool { return slices.Contains(names, name) }) {
			return false
		}
	}
	return true
}

// taken is a stamp, and when it was taken.
type taken struct {
	s    Stamp
	when int
}

// tally counts what happened, so that it is seen that the edges were met.
type tally map[string]int

// walk is one with its model, and the stamps that were taken.
type walk struct {
	v      *Vers
	m      model
	stamps []taken
	met    tally
}

// lawNames is the names of the walks.
var lawNames = []string{"", "a", "b", "c", "d", "\x00"}

// lawClients is the clients of the walks.
var lawClients = []int{0, 1, 2, -1, 1 << 32, math.MaxInt, math.MinInt}

// anyNames is a list of few names, some of which may be there twice.
func anyNames(r *rand.Rand) []string {
	var l []string
	for range r.Intn(4) {
		l = append(l, lawNames[r.Intn(len(lawNames))])
	}
	return l
}

// step lets something happen.
func (w *walk) step(r *rand.Rand) {
	e := event{r.Intn(4), lawClients[r.Intn(len(lawClients))], anyNames(r)}
	if e.what == allBumped && r.Intn(4) > 0 {
		e.what = bumped
	}
	w.m = append(w.m, e)
	switch e.what {
	case bumped:
		w.v.Bump(e.names)
	case allBumped:
		w.v.All()
	case madeDirty:
		w.v.Dirty(e.client, e.names)
	case madeClean:
		w.v.Clean(e.client)
	}
}

// take takes a stamp, and compares it with the model's.
func (w *walk) take(t *testing.T, r *rand.Rand) {
	t.Helper()
	l := anyNames(r)
	s := w.v.Take(l)
	var nums []int
	for _, name := range l {
		nums = append(nums, w.m.num(name))
	}
	if s.Epoch != w.m.epoch() || !slices.Equal(s.Names, l) || !slices.Equal(s.Nums, nums) {
		t.Fatalf("Take(%q) = %v, want %d, %v", l, s, w.m.epoch(), nums)
	}
	w.stamps = append(w.stamps, taken{s, len(w.m)})
}

// other is a stamp that differs from one in one part, perhaps.
func other(r *rand.Rand, s Stamp) Stamp {
	s = Stamp{s.Epoch, slices.Clone(s.Names), slices.Clone(s.Nums)}
	switch n := r.Intn(5); {
	case n == 0:
		s.Epoch += r.Intn(3) - 1
	case n == 1:
		s.Nums = append(s.Nums, 0)
	case n == 2 && len(s.Nums) > 0:
		s.Nums = s.Nums[1:]
	case n == 3 && len(s.Nums) > 0:
		s.Nums[r.Intn(len(s.Nums))] += r.Intn(3) - 1
	case n == 4 && len(s.Names) > 0:
		s.Names[r.Intn(len(s.Names))] = lawNames[r.Intn(len(lawNames))]
	}
	return s
}

// ask compares a stamp, and another one, with what the model says of them.
func (w *walk) ask(t *testing.T, r *rand.Rand) {
	t.Helper()
	s := w.stamps[r.Intn(len(w.stamps))]
	got := w.v.Fresh(s.s)
	if want := w.m.unchanged(s.s.Names, s.when); got != want || w.m.fresh(s.s) != want {
		t.Fatalf("Fresh(%v), of %d, is %t at %d", s.s, s.when, got, len(w.m))
	}
	w.met["taken "+strconv.FormatBool(got)+" "+strconv.FormatBool(s.when < len(w.m)-10)+" "+strconv.Itoa(len(s.s.Names))]++
	made := other(r, s.s)
	if got, want := w.v.Fresh(made), w.m.fresh(made); got != want {
		t.Fatalf("Fresh(%v) = %t, want %t", made, got, want)
	}
	w.met["made "+strconv.FormatBool(w.v.Fresh(made))+" "+strconv.Itoa(len(made.Nums)-len(made.Names))]++
}

// agrees asks whether one tells what its model does.
func (w *walk) agrees(t *testing.T, r *rand.Rand) {
	t.Helper()
	for _, name := range lawNames {
		if got, want := w.v.Num(name), w.m.num(name); got != want {
			t.Fatalf("Num(%q) = %d, want %d", name, got, want)
		}
		if got, want := w.v.Busy([]string{name}), w.m.busy([]string{name}); got != want {
			t.Fatalf("Busy of %q is %t, want %t", name, got, want)
		}
	}
	l := anyNames(r)
	got, want := w.v.Busy(l), w.m.busy(l)
	if got != want {
		t.Fatalf("Busy(%q) = %t, want %t", l, got, want)
	}
	w.met["busy "+strconv.FormatBool(got)+" "+strconv.Itoa(len(l))]++
	sane(t, w.v)
}

// P13.1 to P13.5: random steps, against a model
func TestLaws(t *testing.T) {
	r := rand.New(rand.NewSource(135))
	met := tally{}
	for range 400 {
		w := &walk{v: New(), met: met}
		for range 120 {
			var left *Vers
			before := show(w.v)
			if r.Intn(8) == 0 {
				left, w.v = w.v, w.v.Copy()
			}
			if len(w.stamps) == 0 || r.Intn(3) == 0 {
				w.take(t, r)
			}
			w.step(r)
			w.ask(t, r)
			w.agrees(t, r)
			if left != nil && show(left) != before {
				t.Fatalf("what was copied became %s, was %s", show(left), before)
			}
		}
	}
	for _, what := range []string{
		"taken true false 0", "taken true true 0", "taken false false 0", "taken false true 0", "taken true false 1", "taken true true 1", "taken false false 1", "taken false true 1",
		"taken true false 3", "taken true true 3", "taken false false 3", "taken false true 3", "made true 0", "made false 0", "made false 1", "made false -1",
		"busy true 1", "busy false 1", "busy true 3", "busy false 3", "busy false 0",
	} {
		if met[what] < 20 {
			t.Errorf("only %d of %q", met[what], what)
		}
	}
}

// P13.2, P13.5: many names, and many clients: what one does touches just its names, and takes no longer than among few
func TestMany(t *testing.T) {
	const n = 1 << 17
	var all []string
	for i := range n {
		all = append(all, strconv.Itoa(i))
	}
	v := New()
	v.Bump(all)
	v.Bump(slices.Concat(all, all))
	whole := v.Take(all)
	var stamps []Stamp
	for i := range n {
		// Each name but the first one is dirty by two: its own client, and the one ahead.
		v.Dirty(i, all[i:min(i+2, n)])
		stamps = append(stamps, v.Take(all[i:min(i+2, n)]))
	}
	sane(t, v)
	for i := range n {
		v.Clean(i)
		if v.Busy(all[i:i+1]) || v.Busy(all[i+1:min(i+2, n)]) != (i+1 < n) {
			t.Fatalf("behind %d, it is busy, or the next one is not", i)
		}
	}
	sane(t, v)
	if v.Busy(all) || !v.Fresh(whole) || v.Num("7") != 2 {
		t.Error("all are clean, and nothing was bumped since")
	}
	for i := 0; i < n; i += 3 {
		v.Bump(all[i : i+1])
	}
	for i, s := range stamps {
		if got := v.Fresh(s); got != (i%3 == 1) {
			t.Fatalf("the %d. stamp is fresh: %t", i, got)
		}
	}
	if v.Fresh(whole) {
		t.Error("a third of all was bumped")
	}
}
