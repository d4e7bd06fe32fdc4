package line

import (
	"cmp"
	"math"
	"math/rand"
	"slices"
	"strconv"
	"sync"
	"testing"

	"pontoon/api"
)

// model is a line, as the laws are asked of it: all who ever came, those who went too.
type model struct {
	most int
	came []visit
}

// visit is somebody's stay.
type visit struct {
	id, until int
	gone      bool
}

// waits is where those stand, of all who came, who have not gone.
func (m *model) waits() []int {
	var l []int
	for i, v := range m.came {
		if !v.gone {
			l = append(l, i)
		}
	}
	return l
}

// all is what All tells.
func (m *model) all() []int {
	var l []int
	for _, i := range m.waits() {
		l = append(l, m.came[i].id)
	}
	return l
}

// join is what Join tells.
func (m *model) join(id, until int) api.Errno {
	all := m.all()
	switch {
	case until < 0 || until > api.MaxTime:
		return api.ErrArg
	case slices.Contains(all, id):
		return api.ErrTwice
	case len(all) == m.most:
		return api.ErrFull
	}
	m.came = append(m.came, visit{id: id, until: until})
	return api.OK
}

// first is what First tells.
func (m *model) first() (int, bool) {
	l := m.waits()
	if len(l) == 0 {
		return 0, false
	}
	m.came[l[0]].gone = true
	return m.came[l[0]].id, true
}

// leave is what Leave tells.
func (m *model) leave(id int) bool {
	for _, i := range m.waits() {
		if m.came[i].id == id {
			m.came[i].gone = true
			return true
		}
	}
	return false
}

// late is what Late tells.
func (m *model) late(now int) []int {
	var l []int
	for _, i := range m.waits() {
		if m.came[i].until <= now {
			m.came[i].gone = true
			l = append(l, m.came[i].id)
		}
	}
	return l
}

// copied is one of its own.
func (m *model) copied() *model {
	return &model{m.most, slices.Clone(m.came)}
}

// pair is a line with its model.
type pair struct {
	l *Line
	m *model
}

// agrees asks whether a line stands as its model does.
func (p pair) agrees(t *testing.T, ids []int) {
	t.Helper()
	all := p.m.all()
	if got := p.l.All(); !slices.Equal(got, all) {
		t.Fatalf("there are %v, want %v", got, all)
	}
	for _, id := range ids {
		if got, want := p.l.Place(id), slices.Index(all, id); got != want {
			t.Fatalf("Place(%d) = %d, want %d", id, got, want)
		}
	}
}

// tally counts what was met, so that it is seen that the edges were.
type tally map[string]int

// join lets somebody join, and compares.
func (p pair) join(t *testing.T, r *rand.Rand, id int, met tally) {
	t.Helper()
	until := r.Intn(12)
	if r.Intn(12) == 0 {
		until = []int{-1, api.MaxTime, api.MaxTime + 1, math.MinInt, math.MaxInt}[r.Intn(5)]
	}
	got, want := p.l.Join(id, until), p.m.join(id, until)
	if got != want {
		t.Fatalf("Join(%d, %d) = %d, want %d", id, until, got, want)
	}
	met["join "+strconv.Itoa(int(got))]++
}

// late lets those go whose time has come, and compares.
func (p pair) late(t *testing.T, r *rand.Rand, met tally) {
	t.Helper()
	now := r.Intn(1+r.Intn(12)) - 1
	if r.Intn(20) == 0 {
		now = []int{math.MinInt, api.MaxTime - 1, api.MaxTime, math.MaxInt}[r.Intn(4)]
	}
	before := len(p.m.all())
	got, want := p.l.Late(now), p.m.late(now)
	if !slices.Equal(got, want) {
		t.Fatalf("Late(%d) = %v, want %v", now, got, want)
	}
	met["late "+strconv.Itoa(min(len(got), 2))+" "+strconv.FormatBool(len(got) == before)]++
}

// step lets something happen to a line and its model, and compares what both tell.
func (p pair) step(t *testing.T, r *rand.Rand, ids []int, met tally) {
	t.Helper()
	id := ids[r.Intn(len(ids))]
	switch n := r.Intn(20); {
	case n < 11:
		p.join(t, r, id, met)
	case n < 14:
		got, ok := p.l.First()
		want, okWant := p.m.first()
		if got != want || ok != okWant {
			t.Fatalf("First = %d, %t, want %d, %t", got, ok, want, okWant)
		}
		met["first "+strconv.FormatBool(ok)]++
	case n < 18:
		at := p.l.Place(id)
		last := at >= 0 && at == len(p.l.All())-1
		got, want := p.l.Leave(id), p.m.leave(id)
		if got != want {
			t.Fatalf("Leave(%d) = %t, want %t", id, got, want)
		}
		met["leave "+strconv.Itoa(cmp.Compare(at, 0))+" "+strconv.FormatBool(last)]++
	default:
		p.late(t, r, met)
	}
}

// P16.1 to P16.6: random steps of a line, and of copies of it, against models
func TestLaws(t *testing.T) {
	r := rand.New(rand.NewSource(166))
	ids := []int{0, 1, 2, 3, 4, 5, 6, 7, 8, -1, math.MinInt, math.MaxInt}
	met := tally{}
	for range 1000 {
		most := 1 + r.Intn(12)
		l, err := New(most)
		if err != api.OK {
			t.Fatal(err)
		}
		all := []pair{{l, &model{most: most}}}
		for range 120 {
			p := all[r.Intn(len(all))]
			if r.Intn(10) == 0 {
				p = pair{p.l.Copy(), p.m.copied()}
				all = append(all[max(0, len(all)-3):], p)
			}
			p.step(t, r, ids, met)
			for _, p := range all {
				p.agrees(t, ids)
			}
		}
	}
	for _, what := range []string{
		"join 0", "join 1", "join 9", "join 11", "first true", "first false", "leave -1 false", "leave 0 false", "leave 0 true", "leave 1 false", "leave 1 true",
		"late 0 false", "late 0 true", "late 1 false", "late 1 true", "late 2 false", "late 2 true",
	} {
		if met[what] < 20 {
			t.Errorf("only %d of %q", met[what], what)
		}
	}
}

// P16.6: who came first goes first, among many, whoever leaves or is late meanwhile
func TestMany(t *testing.T) {
	l, _ := New(greatest)
	for id := range greatest {
		if err := l.Join(id, id%5); err != api.OK {
			t.Fatalf("Join(%d) = %d", id, err)
		}
	}
	c := l.Copy()
	for id := 0; id < greatest; id += 7 {
		if !l.Leave(id) {
			t.Fatalf("Leave(%d) = false", id)
		}
	}
	if got := len(l.Late(1)) + len(l.All()); got != greatest-(greatest+6)/7 {
		t.Errorf("%d were there", got)
	}
	for id := range greatest {
		if id%7 == 0 || id%5 < 2 {
			continue
		}
		if got, ok := l.First(); got != id || !ok {
			t.Fatalf("First = %d, %t, want %d", got, ok, id)
		}
	}
	if got, ok := l.First(); ok {
		t.Errorf("%d was there still", got)
	}
	// Who goes to the end of a long line, again and again, comes to its front again.
	for turn := range 2 * greatest {
		id := turn % greatest
		if got, ok := c.First(); got != id || !ok || c.Join(id, 9) != api.OK || c.Place(id) != greatest-1 {
			t.Fatalf("First = %d, %t, want %d", got, ok, id)
		}
	}
	if got := c.Late(9); len(got) != greatest || !slices.IsSorted(got) {
		t.Errorf("%d were late", len(got))
	}
}

// P16.5: what lines share is only read, so that copies may go on side by side
func TestSideBySide(t *testing.T) {
	l := line(t, 200, "")
	for id := range 100 {
		joins(t, l, id, id)
	}
	lines := []*Line{l}
	for range 7 {
		lines = append(lines, lines[len(lines)-1].Copy())
	}
	var all sync.WaitGroup
	for i, l := range lines {
		all.Go(func() {
			for turn := range 100 {
				l.First()
				l.Join(1000*(i+1)+turn, 500)
				l.Leave(turn + 2)
				l.Late(turn / 2)
			}
		})
	}
	all.Wait()
	for i, l := range lines {
		got := l.All()
		if len(got) == 0 || got[0]/1000 != i+1 || got[len(got)-1] != 1000*(i+1)+99 {
			t.Errorf("in %d there are %v", i, got)
		}
	}
}
