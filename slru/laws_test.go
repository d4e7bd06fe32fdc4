package slru

import (
	"math/rand"
	"slices"
	"strconv"
	"testing"

	"pontoon/api"
)

// model is a store, as the laws are asked of it: its segments are lists, the newest ones first.
type model struct {
	all, kept, most int
	tried, keptOnes []entry
}

// sum is all sizes of a list.
func sum(l []entry) int {
	n := 0
	for _, e := range l {
		n += e.size
	}
	return n
}

// at is where a key stands in a list; -1, if it does not.
func at(l []entry, key string) int {
	return slices.IndexFunc(l, func(e entry) bool { return e.key == key })
}

// keysOf is a list's keys.
func keysOf(l []entry) []string {
	var keys []string
	for _, e := range l {
		keys = append(keys, e.key)
	}
	return keys
}

// popped takes a list's last one.
func popped(l *[]entry) entry {
	e := (*l)[len(*l)-1]
	*l = (*l)[:len(*l)-1]
	return e
}

// pushed puts one ahead of a list.
func pushed(l *[]entry, e entry) {
	*l = slices.Insert(*l, 0, e)
}

// put is what Put tells, and how many of what goes are of each segment.
func (m *model) put(key string, size int) (gone []string, tried, kept int, err api.Errno) {
	if size < 1 {
		return nil, 0, 0, api.ErrArg
	}
	if size > m.most {
		return nil, 0, 0, api.ErrBig
	}
	m.drop(key)
	for sum(m.tried)+sum(m.keptOnes)+size > m.all {
		if len(m.tried) > 0 {
			gone = append(gone, popped(&m.tried).key)
			tried++
			continue
		}
		gone = append(gone, popped(&m.keptOnes).key)
		kept++
	}
	pushed(&m.tried, entry{key, size})
	return gone, tried, kept, api.OK
}

// touch is what Touch tells.
func (m *model) touch(key string) ([]string, bool) {
	if i := at(m.keptOnes, key); i >= 0 {
		e := m.keptOnes[i]
		m.drop(key)
		pushed(&m.keptOnes, e)
		return nil, true
	}
	i := at(m.tried, key)
	if i < 0 {
		return nil, false
	}
	e := m.tried[i]
	m.drop(key)
	if e.size > m.kept {
		pushed(&m.tried, e)
		return nil, true
	}
	pushed(&m.keptOnes, e)
	var gone []string
	for sum(m.keptOnes) > m.kept {
		e := popped(&m.keptOnes)
		pushed(&m.tried, e)
		gone = append(gone, e.key)
	}
	return gone, true
}

// drop tells whether there was one.
func (m *model) drop(key string) bool {
	for _, l := range []*[]entry{&m.tried, &m.keptOnes} {
		if i := at(*l, key); i >= 0 {
			*l = slices.Delete(*l, i, i+1)
			return true
		}
	}
	return false
}

// agrees asks whether a store tells what its model does, and keeps its budgets.
func (m *model) agrees(t *testing.T, s *Store, keys []string) {
	t.Helper()
	for kept, l := range map[bool][]entry{false: m.tried, true: m.keptOnes} {
		if got := s.Keys(kept); !slices.Equal(got, keysOf(l)) || s.Bytes(kept) != sum(l) {
			t.Fatalf("Keys(%t) = %q, %d bytes, want %q, %d", kept, got, s.Bytes(kept), keysOf(l), sum(l))
		}
	}
	if kept := s.Bytes(true); kept > m.kept || s.Bytes(false)+kept > m.all {
		t.Fatalf("%d and %d bytes, of %d, %d", s.Bytes(false), kept, m.all, m.kept)
	}
	both := slices.Concat(m.tried, m.keptOnes)
	for _, key := range keys {
		size := 0
		i := at(both, key)
		if i >= 0 {
			size = both[i].size
		}
		if got, ok := s.Has(key); got != size || ok != (i >= 0) || got > m.most {
			t.Fatalf("Has(%q) = %d, %t, want %d", key, got, ok, size)
		}
	}
}

// lastGoes checks that a key that was just touched goes last, when all go: at the least of its segment.
func lastGoes(t *testing.T, s *Store, m *model, key string) {
	t.Helper()
	if m.most < m.all {
		return
	}
	tried, kept := s.Keys(false), s.Keys(true)
	c := s.Copy()
	told, err := c.Put("new", m.all)
	if err != api.OK || len(told) != len(tried)+len(kept) {
		t.Fatalf("all go: %q, %d", told, err)
	}
	if slices.Contains(tried, key) {
		told = told[:len(tried)]
	}
	if told[len(told)-1] != key {
		t.Fatalf("%q was touched last; there go %q", key, told)
	}
}

// tally counts what happened, so that it is seen that the edges were met.
type tally map[string]int

// many is none, one, or several.
func many(n int) string {
	if n < 2 {
		return strconv.Itoa(n)
	}
	return "several"
}

// step lets something happen to a store and its model, and compares what both tell.
func step(t *testing.T, r *rand.Rand, s *Store, m *model, keys []string, met tally) {
	t.Helper()
	key := keys[r.Intn(len(keys))]
	switch n := r.Intn(20); {
	case n < 9:
		size := 1 + r.Intn(1+r.Intn(m.most))
		if r.Intn(15) == 0 {
			size = []int{-1, 0, m.most, m.most + 1}[r.Intn(4)]
		}
		size0, there := s.Has(key)
		told, e := s.Put(key, size)
		want, tried, kept, err := m.put(key, size)
		if !slices.Equal(told, want) || e != err {
			t.Fatalf("Put(%q, %d) = %q, %d, want %q, %d", key, size, told, e, want, err)
		}
		if err != api.OK {
			met["put wrong"]++
			return
		}
		met["put "+many(tried)+" "+many(kept)]++
		if there {
			met["again "+strconv.FormatBool(size > size0)+" "+many(len(told))]++
		}
	case n < 18:
		told, ok := s.Touch(key)
		want, is := m.touch(key)
		if !slices.Equal(told, want) || ok != is {
			t.Fatalf("Touch(%q) = %q, %t, want %q, %t", key, told, ok, want, is)
		}
		if ok {
			met["touch "+many(len(told))]++
			lastGoes(t, s, m, key)
		}
	default:
		if got, want := s.Drop(key), m.drop(key); got != want {
			t.Fatalf("Drop(%q) = %t, want %t", key, got, want)
		}
	}
}

// P10.1 to P10.5: random steps, against a model
func TestLaws(t *testing.T) {
	r := rand.New(rand.NewSource(105))
	keys := []string{"", "a", "b", "c", "d", "e", "f", "g", "h", "i", "j", "k"}
	met := tally{}
	for range 2000 {
		all := 1 + r.Intn(40)
		m := &model{all: all, kept: r.Intn(all + 1), most: 1 + r.Intn(all)}
		if r.Intn(3) == 0 {
			m.most = all
		}
		s, err := New(m.all, m.kept, m.most)
		if err != api.OK {
			t.Fatal(err)
		}
		for range 150 {
			var left *Store
			before := show(s)
			if r.Intn(8) == 0 {
				left, s = s, s.Copy()
			}
			step(t, r, s, m, keys, met)
			m.agrees(t, s, keys)
			if left != nil && show(left) != before {
				t.Fatalf("what was copied became %q, was %q", show(left), before)
			}
		}
	}
	for _, what := range []string{
		"put wrong", "put 0 0", "put 1 0", "put several 0", "put 0 1", "put 0 several", "put 1 1", "put several several",
		"again true 0", "again true 1", "again true several", "again false 0", "touch 0", "touch 1", "touch several",
	} {
		if met[what] < 20 {
			t.Errorf("only %d of %q", met[what], what)
		}
	}
	if met["again false 1"]+met["again false several"] > 0 {
		t.Error("room was made for a size that is no greater")
	}
}

// P10.5: many entries
func TestMany(t *testing.T) {
	const n = 1 << 17
	s := store(t, n, n/2, n)
	for i := range n {
		puts(t, s, strconv.Itoa(i), 1)
	}
	for i := range n {
		if i < n/2 {
			touches(t, s, strconv.Itoa(i))
			continue
		}
		touches(t, s, strconv.Itoa(i), strconv.Itoa(i-n/2))
	}
	c := s.Copy()
	puts(t, s, "0", 1)
	told, err := c.Put("x", n)
	if err != api.OK || len(told) != n || s.Bytes(false) != n/2 || s.Bytes(true) != n/2 {
		t.Fatalf("%d went, %d; there are %d and %d", len(told), err, s.Bytes(false), s.Bytes(true))
	}
	for i, key := range told {
		if key != strconv.Itoa(i) {
			t.Fatalf("%q went as number %d", key, i)
		}
	}
}
