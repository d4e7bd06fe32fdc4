package flight

import (
	"math/rand"
	"slices"
	"strconv"
	"testing"

	"pontoon/api"
	"pontoon/cache"
)

// asked is who asked for which key.
type asked struct {
	k      cache.Key
	client int
}

// model is all who wait, in the order in which they asked: of a key the first one leads.
type model []asked

// of is who waits for a key, in order.
func (m model) of(k cache.Key) []int {
	var l []int
	for _, a := range m {
		if a.k == k {
			l = append(l, a.client)
		}
	}
	return l
}

// waits is what Waits tells.
func (m model) waits(client int) (cache.Key, bool) {
	for _, a := range m {
		if a.client == client {
			return a.k, true
		}
	}
	return cache.Key{}, false
}

// ask is what Ask tells.
func (m *model) ask(k cache.Key, client int) (bool, api.Errno) {
	if client < 0 {
		return false, api.ErrArg
	}
	if _, is := m.waits(client); is {
		return false, api.ErrState
	}
	leads := len(m.of(k)) == 0
	*m = append(*m, asked{k, client})
	return leads, api.OK
}

// land is what Land tells.
func (m *model) land(k cache.Key) (int, []int, bool) {
	l := m.of(k)
	if len(l) == 0 {
		return 0, nil, false
	}
	*m = slices.DeleteFunc(slices.Clone(*m), func(a asked) bool { return a.k == k })
	return l[0], l[1:], true
}

// leave is what Leave tells.
func (m *model) leave(client int) ([]int, bool) {
	k, is := m.waits(client)
	if !is {
		return nil, false
	}
	if m.of(k)[0] == client {
		_, l, _ := m.land(k)
		return l, true
	}
	*m = slices.DeleteFunc(slices.Clone(*m), func(a asked) bool { return a.client == client })
	return nil, true
}

// lawKeys is the keys of the walks: some that are nearly alike, and some that no cache would take.
var lawKeys = []cache.Key{{}, {Norm: "q"}, {Norm: "q", Format: 1}, {Norm: "q", Format: -1}, {Db: "q"}, {Role: "q"}, {Norm: "q\x00"}}

// tally counts what was met, so that it is seen that the edges were.
type tally map[string]int

// walk is a board with its model.
type walk struct {
	b   *Board
	m   model
	met tally
}

// step lets something happen, and compares what is told. Where much is asked, flights become long.
func (w *walk) step(t *testing.T, r *rand.Rand, much int) {
	t.Helper()
	k := lawKeys[r.Intn(min(len(lawKeys), much+2))]
	client := r.Intn(14) - 1
	switch n := r.Intn(much + 2); n {
	case 0:
		got, l, ok := w.b.Land(k)
		want, lWant, okWant := w.m.land(k)
		if got != want || !slices.Equal(l, lWant) || ok != okWant {
			t.Fatalf("Land(%v) = %d, %v, %t, want %d, %v, %t", k, got, l, ok, want, lWant, okWant)
		}
		w.met["land "+strconv.FormatBool(ok)+" "+strconv.Itoa(min(len(l), 4))]++
	case 1:
		_, is := w.m.waits(client)
		before := len(w.m)
		l, ok := w.b.Leave(client)
		want, okWant := w.m.leave(client)
		if !slices.Equal(l, want) || ok != okWant || ok != is {
			t.Fatalf("Leave(%d) = %v, %t, want %v, %t", client, l, ok, want, okWant)
		}
		w.met["leave "+strconv.FormatBool(ok)+" "+strconv.Itoa(min(len(l), 4))+" "+strconv.Itoa(min(before-len(w.m), 4))]++
	default:
		leads, err := w.b.Ask(k, client)
		if want, errWant := w.m.ask(k, client); leads != want || err != errWant {
			t.Fatalf("Ask(%v, %d) = %t, %d, want %t, %d", k, client, leads, err, want, errWant)
		}
		w.met["ask "+strconv.FormatBool(leads)+" "+strconv.Itoa(int(err))]++
	}
}

// agrees asks whether a board tells what its model does.
func (w *walk) agrees(t *testing.T) {
	t.Helper()
	open := 0
	for _, k := range lawKeys {
		want := 0
		l := w.m.of(k)
		if len(l) > 0 {
			want = l[0]
			open++
		}
		if got, ok := w.b.Leader(k); got != want || ok != (len(l) > 0) {
			t.Fatalf("Leader(%v) = %d, %t, want %d of %v", k, got, ok, want, l)
		}
	}
	if w.b.Open() != open {
		t.Fatalf("%d are open, want %d", w.b.Open(), open)
	}
	for client := -2; client < 15; client++ {
		want, is := w.m.waits(client)
		if got, ok := w.b.Waits(client); got != want || ok != is {
			t.Fatalf("Waits(%d) = %v, %t, want %v, %t", client, got, ok, want, is)
		}
	}
	sane(t, w.b)
}

// P14.1 to P14.6: random steps, against a model
func TestLaws(t *testing.T) {
	r := rand.New(rand.NewSource(146))
	met := tally{}
	for i := range 600 {
		w := &walk{b: New(), met: met}
		for range 100 {
			var left *walk
			if r.Intn(8) == 0 {
				left = &walk{b: w.b, m: slices.Clone(w.m), met: met}
				w.b = w.b.Copy()
			}
			w.step(t, r, 1+i%6)
			w.agrees(t)
			if left != nil {
				left.agrees(t)
				left.step(t, r, 1)
				left.agrees(t)
				w.agrees(t)
			}
		}
	}
	for _, what := range []string{
		"ask true 0", "ask false 0", "ask false 1", "ask false 10",
		"land false 0", "land true 0", "land true 1", "land true 3", "land true 4",
		"leave false 0 0", "leave true 0 1", "leave true 1 2", "leave true 3 4", "leave true 4 4",
	} {
		if met[what] < 20 {
			t.Errorf("only %d of %q", met[what], what)
		}
	}
}

// P14.2, P14.4: many follow one; each leaves as quickly as from a short line, and those that are left stay in order
func TestManyFollow(t *testing.T) {
	const n = 1 << 17
	b := New()
	var want []int
	for i := range n {
		// An odd factor: each client of 0 to n - 1 comes once.
		client := i * 40503 % n
		if leads, err := b.Ask(key("a"), client); leads != (i == 0) || err != api.OK {
			t.Fatalf("the %d. one leads: %t, %d", i, leads, err)
		}
		if i > 0 && client%3 > 0 {
			want = append(want, client)
		}
	}
	for client := 3; client < n; client += 3 {
		if l, ok := b.Leave(client); len(l) != 0 || !ok {
			t.Fatalf("Leave(%d) = %v, %t", client, l, ok)
		}
	}
	sane(t, b)
	c := b.Copy()
	sane(t, c)
	leaves(t, b, 0, want, true)
	lands(t, c, key("a"), 0, want, true)
	if b.Open() != 0 || c.Open() != 0 {
		t.Error("they are open still")
	}
}

// P14.2 to P14.4: many flights; what is done with one takes no longer than among few
func TestManyFlights(t *testing.T) {
	const n = 1 << 17
	b := New()
	for i := range n {
		b.Ask(key(strconv.Itoa(i)), 2*i)
		b.Ask(key(strconv.Itoa(i)), 2*i+1)
	}
	sane(t, b)
	for i := range n {
		k := key(strconv.Itoa(i))
		if got, ok := b.Waits(2*i + 1); got != k || !ok || b.Open() != n-i {
			t.Fatalf("Waits(%d) = %v, %t", 2*i+1, got, ok)
		}
		if i%2 == 0 {
			if leader, l, ok := b.Land(k); leader != 2*i || !slices.Equal(l, []int{2*i + 1}) || !ok {
				t.Fatalf("Land(%v) = %d, %v, %t", k, leader, l, ok)
			}
		} else if l, ok := b.Leave(2 * i); !slices.Equal(l, []int{2*i + 1}) || !ok {
			t.Fatalf("Leave(%d) = %v, %t", 2*i, l, ok)
		}
	}
	sane(t, b)
	if b.Open() != 0 {
		t.Errorf("%d are open", b.Open())
	}
}
