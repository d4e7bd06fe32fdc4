package cache

import (
	"cmp"
	"math/rand"
	"slices"
	"strconv"
	"strings"
	"testing"

	"pontoon/api"
)

// item is what a model has of a key.
type item struct {
	k     Key
	value string
	until int
	set   int // which of all Puts it came by
}

// size is an item's size, reckoned by its parts.
func (i item) size() int {
	return 16 + len(i.k.Db) + 1 + len(i.k.Role) + 1 + 2 + len(i.k.Norm) + 1 + len(i.value)
}

// model is a cache, as the laws are asked of it: its segments are lists, the newest ones first.
type model struct {
	all, kept, most, ttl int
	tried, keptOnes      []item
	sets                 int
}

// sum is all sizes of a list.
func sum(l []item) int {
	n := 0
	for _, i := range l {
		n += i.size()
	}
	return n
}

// keysOf is a list's keys.
func keysOf(l []item) []Key {
	var keys []Key
	for _, i := range l {
		keys = append(keys, i.k)
	}
	return keys
}

// popped takes a list's last one.
func popped(l *[]item) item {
	i := (*l)[len(*l)-1]
	*l = (*l)[:len(*l)-1]
	return i
}

// pushed puts one ahead of a list.
func pushed(l *[]item, i item) {
	*l = slices.Insert(*l, 0, i)
}

// is tells whether a key is right.
func is(k Key) bool {
	return !strings.Contains(k.Db+k.Role+k.Norm, "\x00") && (k.Format == 0 || k.Format == 1)
}

// items is all items, in the order of Keys.
func (m *model) items() []item {
	return slices.Concat(m.keptOnes, m.tried)
}

// find is a key's item, and the list where it stands; of a key that is not there no list.
func (m *model) find(k Key) (item, *[]item) {
	for _, l := range []*[]item{&m.keptOnes, &m.tried} {
		for _, i := range *l {
			if i.k == k {
				return i, l
			}
		}
	}
	return item{}, nil
}

// put is what Put tells.
func (m *model) put(k Key, value string, now int) ([]Key, api.Errno) {
	if !is(k) || now < 0 || now > 1<<39 {
		return nil, api.ErrArg
	}
	i := item{k: k, value: value, until: now + m.ttl, set: m.sets}
	if i.size() > m.most {
		return nil, api.ErrBig
	}
	m.sets++
	m.drop(k)
	var gone []Key
	for sum(m.items())+i.size() > m.all {
		if len(m.tried) > 0 {
			gone = append(gone, popped(&m.tried).k)
		} else {
			gone = append(gone, popped(&m.keptOnes).k)
		}
	}
	pushed(&m.tried, i)
	return gone, api.OK
}

// get is what Get tells.
func (m *model) get(k Key, now int) (string, bool) {
	i, from := m.find(k)
	if from == nil {
		return "", false
	}
	m.drop(k)
	if i.until <= now {
		return "", false
	}
	if from == &m.tried && i.size() > m.kept {
		pushed(&m.tried, i)
		return i.value, true
	}
	pushed(&m.keptOnes, i)
	for sum(m.keptOnes) > m.kept {
		pushed(&m.tried, popped(&m.keptOnes))
	}
	return i.value, true
}

// drop tells whether there was one.
func (m *model) drop(k Key) bool {
	_, from := m.find(k)
	if from == nil {
		return false
	}
	*from = slices.DeleteFunc(*from, func(i item) bool { return i.k == k })
	return true
}

// tick is what Tick tells.
func (m *model) tick(now int) []Key {
	var due []item
	for _, i := range m.items() {
		if i.until <= now {
			due = append(due, i)
			m.drop(i.k)
		}
	}
	slices.SortFunc(due, func(a, b item) int {
		return cmp.Or(cmp.Compare(a.until, b.until), cmp.Compare(a.set, b.set))
	})
	return keysOf(due)
}

// flush is what Flush tells.
func (m *model) flush() int {
	n := len(m.items())
	m.tried, m.keptOnes = nil, nil
	return n
}

// agrees asks whether a cache tells what its model does, and keeps its budgets.
func (m *model) agrees(t *testing.T, c *Cache) {
	t.Helper()
	all := m.items()
	if got := c.Keys(); !slices.Equal(got, keysOf(all)) || c.Bytes() != sum(all) {
		t.Fatalf("Keys = %#v, %d bytes, want %#v, %d", got, c.Bytes(), keysOf(all), sum(all))
	}
	if c.Bytes() > m.all || c.store.Bytes(true) > m.kept {
		t.Fatalf("%d bytes, %d of them kept, of %d, %d", c.Bytes(), c.store.Bytes(true), m.all, m.kept)
	}
	for _, i := range all {
		until, ok := c.queue.At(Text(i.k))
		if e := c.entries[i.k]; e.value != i.value || until != i.until || !ok {
			t.Fatalf("of %#v there is %q till %d, want %q till %d", i.k, e.value, until, i.value, i.until)
		}
	}
	sane(t, c)
}

// whole is all of a cache, as text.
func whole(c *Cache) string {
	var s strings.Builder
	for _, kept := range []bool{true, false} {
		for _, text := range c.store.Keys(kept) {
			k, _ := Parse(text)
			s.WriteString(strconv.Quote(text) + strconv.Quote(c.entries[k].value))
		}
		s.WriteString("|")
	}
	for _, text := range c.queue.Keys() {
		until, _ := c.queue.At(text)
		s.WriteString(strconv.Quote(text) + strconv.Itoa(until))
	}
	return s.String()
}

// tally counts what happened, so that it is seen that the edges were met.
type tally map[string]int

// many is none, one, or several.
func many(n int) string {
	if n < 2 {
		return strconv.Itoa(n)
	}
	return "several"
}

// last is the last Put of a key: its value and its time.
type last struct {
	value string
	at    int
}

// walk is a cache with its model, and what was put.
type walk struct {
	c    *Cache
	m    *model
	puts map[Key]last
	now  int
	met  tally
}

// step lets something happen to a cache and its model, and compares what both tell.
func (w *walk) step(t *testing.T, r *rand.Rand, k Key) {
	t.Helper()
	w.now += r.Intn(3)
	now := w.now
	if r.Intn(10) == 0 {
		now = r.Intn(2*w.now + 3)
	}
	switch n := r.Intn(40); {
	case n < 16:
		w.put(t, r, k, now)
	case n < 34:
		w.get(t, k, now)
	case n < 37:
		got, want := w.c.Drop(k), w.m.drop(k)
		if got != want {
			t.Fatalf("Drop(%#v) = %t, want %t", k, got, want)
		}
		w.met["drop "+strconv.FormatBool(got)]++
	case n < 39:
		got, want := w.c.Tick(now), w.m.tick(now)
		if !slices.Equal(got, want) {
			t.Fatalf("Tick(%d) = %#v, want %#v", now, got, want)
		}
		w.met["tick "+many(len(got))]++
	case r.Intn(5) == 0:
		got, want := w.c.Flush(), w.m.flush()
		if got != want {
			t.Fatalf("Flush = %d, want %d", got, want)
		}
		w.met["flush "+many(got)]++
	}
}

// put is a step of Put.
func (w *walk) put(t *testing.T, r *rand.Rand, k Key, now int) {
	t.Helper()
	length := r.Intn(40)
	if r.Intn(6) == 0 {
		// Just the most there may be, or one more
		length = max(0, w.m.most-item{k: k}.size()+r.Intn(2))
	}
	value := strings.Repeat(string(rune('a'+r.Intn(26))), length)
	if r.Intn(20) == 0 {
		now = []int{-1, 1<<39 + 1}[r.Intn(2)]
	}
	_, before := w.m.find(k)
	got, e := w.c.Put(k, value, now)
	want, err := w.m.put(k, value, now)
	if !slices.Equal(got, want) || e != err {
		t.Fatalf("Put(%#v, %q, %d) = %#v, %d, want %#v, %d", k, value, now, got, e, want, err)
	}
	w.met["put "+many(len(got))+" "+strconv.FormatBool(before != nil)+" "+strconv.Itoa(int(e))]++
	if e == api.OK {
		w.puts[k] = last{value, now}
	}
}

// get is a step of Get.
func (w *walk) get(t *testing.T, k Key, now int) {
	t.Helper()
	_, before := w.m.find(k)
	got, ok := w.c.Get(k, now)
	want, there := w.m.get(k, now)
	if got != want || ok != there {
		t.Fatalf("Get(%#v, %d) = %q, %t, want %q, %t", k, now, got, ok, want, there)
	}
	// The law itself: it was put last, and not longer than ttl ago.
	if p, put := w.puts[k]; ok && (!put || got != p.value || now-p.at > w.m.ttl) {
		t.Fatalf("Get(%#v, %d) = %q; %q was put at %d, ttl %d", k, now, got, p.value, p.at, w.m.ttl)
	}
	_, after := w.m.find(k)
	w.met["get "+strconv.FormatBool(ok)+" "+strconv.FormatBool(before != nil)+" "+strconv.FormatBool(before != after)]++
}

// lawKeys is the keys of the walks, some of which are not right.
var lawKeys = []Key{
	{}, {Format: 1}, {Db: "d"}, {Role: "d"}, {Norm: "d"}, {"d", "r", 0, "a"}, {"d", "r", 1, "a"}, {"d", "r", 0, "b"}, {"dr", "", 0, "b"}, {"d", "r", 0, "select * from t"},
	{"\xff", "é", 1, "\x01"}, {"D", "r", 0, "a"}, {"d", "r", 2, "a"}, {"d", "r", -1, "a"}, {"d\x00", "r", 0, "a"}, {"d", "\x00r", 0, "a"}, {"d", "r", 0, "\x00"},
}

// P12.2 to P12.6: random steps, against a model
func TestLaws(t *testing.T) {
	r := rand.New(rand.NewSource(126))
	met := tally{}
	for range 1500 {
		all := 30 + r.Intn(300)
		m := &model{all: all, kept: r.Intn(all + 1), most: 25 + r.Intn(all-24), ttl: 1 + r.Intn(40)}
		c, err := New(m.all, m.kept, m.most, m.ttl)
		if err != api.OK {
			t.Fatal(err)
		}
		w := &walk{c: c, m: m, puts: map[Key]last{}, met: met}
		for range 150 {
			var left *Cache
			before := whole(w.c)
			if r.Intn(8) == 0 {
				left, w.c = w.c, w.c.Copy()
			}
			w.step(t, r, lawKeys[r.Intn(len(lawKeys))])
			m.agrees(t, w.c)
			if left != nil && whole(left) != before {
				t.Fatalf("what was copied became %q, was %q", whole(left), before)
			}
		}
	}
	for _, what := range []string{
		"put 0 false 0", "put 1 false 0", "put several false 0", "put 0 true 0", "put 1 true 0", "put several true 0",
		"put 0 false 1", "put 0 true 1", "put 0 false 2", "put 0 true 2",
		"get true true false", "get true true true", "get false false false", "get false true true",
		"drop true", "drop false", "tick 0", "tick 1", "tick several", "flush 0", "flush 1", "flush several",
	} {
		if met[what] < 20 {
			t.Errorf("only %d of %q", met[what], what)
		}
	}
}

// P12.6: many keys in a great cache: what goes for room, what is due and what is dropped is each told once
func TestMany(t *testing.T) {
	const n = 1 << 16
	c := cache(t, n*20, n*10, 100, times)
	gone := map[Key]int{}
	count := func(l []Key) {
		for _, k := range l {
			gone[k]++
		}
	}
	for i := range n {
		k := Key{Format: i % 2, Norm: strconv.Itoa(i)}
		told, err := c.Put(k, strconv.Itoa(i), i)
		if err != api.OK || c.Bytes() > n*20 {
			t.Fatalf("Put of the %d. key: %d, %d bytes", i, err, c.Bytes())
		}
		count(told)
		if got, ok := c.Get(k, i); i%3 == 0 && (got != strconv.Itoa(i) || !ok) {
			t.Fatalf("Get of the %d. key = %q, %t", i, got, ok)
		}
	}
	if len(gone) == 0 || len(gone)+len(c.Keys()) != n {
		t.Errorf("%d went, %d stayed, of %d", len(gone), len(c.Keys()), n)
	}
	d := c.Copy()
	for _, k := range c.Keys() {
		if len(k.Norm)%2 == 0 && !c.Drop(k) {
			t.Fatalf("Drop(%#v)", k)
		}
	}
	if c.Flush() == 0 || len(c.Keys()) != 0 || c.Bytes() != 0 {
		t.Error("all were flushed")
	}
	sane(t, d)
	for now := times; now <= times+n; now += n / 8 {
		count(d.Tick(now))
	}
	if len(gone) != n || len(d.Keys()) != 0 {
		t.Errorf("%d went, of %d; %d stayed", len(gone), n, len(d.Keys()))
	}
	for k, went := range gone {
		if went != 1 {
			t.Fatalf("%#v went %d times", k, went)
		}
	}
}
