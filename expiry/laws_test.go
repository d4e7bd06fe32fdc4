package expiry

import (
	"cmp"
	"math/rand"
	"slices"
	"strconv"
	"testing"

	"pontoon/api"
)

// model is a queue, as the laws are asked of it: keys with deadlines, in the order in which they were set.
type model []pair

// pair is a key with a deadline.
type pair struct {
	key string
	at  int
}

// at is where a key stands; -1, if it does not.
func (m model) at(key string) int {
	return slices.IndexFunc(m, func(p pair) bool { return p.key == key })
}

// drop tells whether there was one.
func (m *model) drop(key string) bool {
	i := m.at(key)
	if i >= 0 {
		*m = slices.Delete(*m, i, i+1)
	}
	return i >= 0
}

// set is what Set tells.
func (m *model) set(key string, at int) api.Errno {
	if at < 0 || at > api.MaxTime {
		return api.ErrArg
	}
	m.drop(key)
	*m = append(*m, pair{key, at})
	return api.OK
}

// ordered is all keys with their deadlines, in the queue's order.
func (m model) ordered() []pair {
	l := slices.Clone([]pair(m))
	slices.SortStableFunc(l, func(a, b pair) int { return cmp.Compare(a.at, b.at) })
	return l
}

// due is what Due tells.
func (m *model) due(now int) []string {
	var gone []string
	for _, p := range m.ordered() {
		if p.at <= now {
			gone = append(gone, p.key)
			m.drop(p.key)
		}
	}
	return gone
}

// agrees asks whether a queue tells what its model does.
func (m model) agrees(t *testing.T, q *Queue, keys []string) {
	t.Helper()
	l := m.ordered()
	var want []string
	for _, p := range l {
		want = append(want, p.key)
	}
	if got := q.Keys(); !slices.Equal(got, want) {
		t.Fatalf("there are %q, want %q", got, want)
	}
	at, ok := q.Next()
	if ok != (len(l) > 0) || ok && at != l[0].at || !ok && at != 0 {
		t.Fatalf("Next = %d, %t, of %v", at, ok, l)
	}
	for _, key := range keys {
		p := pair{}
		i := m.at(key)
		if i >= 0 {
			p = m[i]
		}
		if at, ok := q.At(key); at != p.at || ok != (i >= 0) {
			t.Fatalf("At(%q) = %d, %t, want %d", key, at, ok, p.at)
		}
	}
}

// sane checks that an order keeps its form: one block at least, none too long, and none empty among several.
func sane(t *testing.T, q *Queue) {
	t.Helper()
	n := 0
	for _, block := range q.order {
		n += len(block)
		if len(block) > blockMost || len(block) == 0 && len(q.order) > 1 {
			t.Fatalf("a block of %d, of %d blocks", len(block), len(q.order))
		}
	}
	if len(q.order) == 0 || n != len(q.entries) {
		t.Fatalf("%d blocks, %d entries of %d", len(q.order), n, len(q.entries))
	}
}

// tally counts what happened, so that it is seen that the edges were met.
type tally map[string]int

// step lets something happen to a queue and its model, and compares what both tell.
func step(t *testing.T, r *rand.Rand, q *Queue, m *model, keys []string, times int, met tally) {
	t.Helper()
	key := keys[r.Intn(len(keys))]
	switch n := r.Intn(20); {
	case n < 11:
		at := r.Intn(times)
		if r.Intn(15) == 0 {
			at = []int{-1, api.MaxTime, api.MaxTime + 1}[r.Intn(3)]
		}
		before, there := q.At(key)
		got, want := q.Set(key, at), m.set(key, at)
		if got != want {
			t.Fatalf("Set(%q, %d) = %d, want %d", key, at, got, want)
		}
		if there {
			met["again "+strconv.Itoa(cmp.Compare(at, before))+" "+strconv.Itoa(int(got))]++
		}
	case n < 16:
		got, want := q.Drop(key), m.drop(key)
		if got != want {
			t.Fatalf("Drop(%q) = %t, want %t", key, got, want)
		}
		met["drop "+strconv.FormatBool(got)]++
	default:
		now := r.Intn(1+r.Intn(times)) - 1
		if r.Intn(40) == 0 {
			now = []int{api.MaxTime - 1, api.MaxTime}[r.Intn(2)]
		}
		before := len(*m)
		got, want := q.Due(now), m.due(now)
		if !slices.Equal(got, want) {
			t.Fatalf("Due(%d) = %q, want %q", now, got, want)
		}
		if again := q.Due(now); len(again) != 0 {
			t.Fatalf("Due(%d) a second time = %q", now, again)
		}
		if at, ok := q.Next(); ok && at <= now {
			t.Fatalf("%d stayed behind %d", at, now)
		}
		met["due "+strconv.Itoa(min(len(got), 2))+" "+strconv.FormatBool(len(got) == before)]++
	}
}

// P11.1 to P11.3: random steps, against a model
func TestLaws(t *testing.T) {
	r := rand.New(rand.NewSource(113))
	keys := []string{"", "a", "b", "c", "d", "e", "f", "g", "h", "i", "j", "k"}
	met := tally{}
	for range 1500 {
		q, m := New(), &model{}
		times := 1 + r.Intn(20)
		for range 150 {
			var left *Queue
			before := show(q)
			if r.Intn(8) == 0 {
				left, q = q, q.Copy()
			}
			step(t, r, q, m, keys, times, met)
			m.agrees(t, q, keys)
			if left != nil && show(left) != before {
				t.Fatalf("what was copied became %q, was %q", show(left), before)
			}
		}
	}
	for _, what := range []string{
		"again -1 0", "again 0 0", "again 1 0", "again -1 1", "again 1 1", "drop true", "drop false",
		"due 0 false", "due 0 true", "due 1 false", "due 1 true", "due 2 false", "due 2 true",
	} {
		if met[what] < 20 {
			t.Errorf("only %d of %q", met[what], what)
		}
	}
}

// P11.1 to P11.3: random steps with many keys, so that there are many blocks
func TestLawsOfMany(t *testing.T) {
	r := rand.New(rand.NewSource(114))
	var keys []string
	for i := range 3000 {
		keys = append(keys, strconv.Itoa(i))
	}
	for _, times := range []int{1, 3, 1000, 1 << 30} {
		q, m := New(), &model{}
		most := 0
		for round := range 10 {
			for _, i := range r.Perm(len(keys))[:1+r.Intn(len(keys))] {
				at := r.Intn(times)
				if q.Set(keys[i], at) != m.set(keys[i], at) {
					t.Fatalf("Set(%q, %d)", keys[i], at)
				}
			}
			m.agrees(t, q, keys)
			sane(t, q)
			most = max(most, len(q.order))
			left, before := q, q.Keys()
			q = q.Copy()
			for _, i := range r.Perm(len(keys))[:r.Intn(len(keys))] {
				if q.Drop(keys[i]) != m.drop(keys[i]) {
					t.Fatalf("Drop(%q)", keys[i])
				}
			}
			m.agrees(t, q, keys)
			sane(t, q)
			now := r.Intn(times) - round%2
			if got, want := q.Due(now), m.due(now); !slices.Equal(got, want) {
				t.Fatalf("Due(%d) = %q, want %q", now, got, want)
			}
			m.agrees(t, q, keys)
			sane(t, q)
			if !slices.Equal(left.Keys(), before) {
				t.Fatal("what was copied changed")
			}
		}
		if most < 4 {
			t.Errorf("only %d blocks", most)
		}
	}
}

// P11.3: many keys, by rising, falling and equal deadlines: what is due goes once, in order
func TestMany(t *testing.T) {
	const n = 1 << 17
	for _, at := range []func(i int) int{
		func(i int) int { return i },
		func(i int) int { return n - 1 - i },
		func(i int) int { return 7 },
		func(i int) int { return i * 40503 % n },
	} {
		q := New()
		for i := range n {
			sets(t, q, strconv.Itoa(i), at(i))
		}
		sane(t, q)
		c := q.Copy()
		for i := 0; i < n; i += 2 {
			goes(t, c, strconv.Itoa(i))
		}
		told := map[string]int{}
		last := -1
		for now := -1; now <= n; now += 1009 {
			for _, key := range c.Due(now) {
				told[key]++
				i, _ := strconv.Atoi(key)
				if i%2 == 0 || at(i) < last || at(i) > now || at(i) <= now-1009 {
					t.Fatalf("%q, of %d, is due at %d", key, at(i), now)
				}
				last = at(i)
			}
		}
		if rest := c.Due(n); len(told)+len(rest) != n/2 {
			t.Fatalf("%d and %d were due", len(told), len(rest))
		}
		if keys := q.Due(n); len(keys) != n || len(q.Keys()) != 0 || len(c.Keys()) != 0 {
			t.Fatalf("%d were due; %d and %d stayed", len(keys), len(q.Keys()), len(c.Keys()))
		}
		sane(t, c)
		for key, times := range told {
			if times != 1 {
				t.Fatalf("%q was due %d times", key, times)
			}
		}
	}
}

// goes checks a Drop of a key that is there, and that it isn't there a second time.
func goes(t *testing.T, q *Queue, key string) {
	t.Helper()
	if !q.Drop(key) || q.Drop(key) {
		t.Fatalf("Drop(%q)", key)
	}
}
