package cache

import (
	"math"
	"slices"
	"strconv"
	"strings"
	"testing"
	"unsafe"

	"pontoon/api"
)

// These tests speak of a key by one letter, its Norm: Db is d, Role r, and so an entry's size is 24 and its value's bytes.
// A whole cache is told as in "a=x@7 | b=yy@9 c=@8": the kept segment and the tried one, the newest ones first, each key with its value and its time.

// times is the greatest ttl, and the greatest time of a Put.
const times = 1 << 39

// key is the key of a letter.
func key(norm string) Key {
	return Key{Db: "d", Role: "r", Norm: norm}
}

// keys is the keys of letters, as in "a b".
func keys(norms string) []Key {
	var l []Key
	for _, norm := range strings.Fields(norms) {
		l = append(l, key(norm))
	}
	return l
}

// cache is a cache of budgets that can be.
func cache(t *testing.T, all, kept, most, ttl int) *Cache {
	t.Helper()
	c, err := New(all, kept, most, ttl)
	if err != api.OK || c == nil {
		t.Fatalf("New(%d, %d, %d, %d) = %v, %d", all, kept, most, ttl, c, err)
	}
	return c
}

// filled is a cache that stands as a text tells. The kept ones are put first, and of each segment the last one.
func filled(t *testing.T, all, kept, most, ttl int, text string) *Cache {
	t.Helper()
	c := cache(t, all, kept, most, ttl)
	first, rest, _ := strings.Cut(text, "|")
	for _, segment := range []string{first, rest} {
		entries := strings.Fields(segment)
		slices.Reverse(entries)
		for _, e := range entries {
			norm, e, _ := strings.Cut(e, "=")
			value, e, _ := strings.Cut(e, "@")
			until, _ := strconv.Atoi(e)
			puts(t, c, norm, value, until-ttl, "")
			if segment == first {
				gets(t, c, norm, until-1, value)
			}
		}
	}
	stands(t, c, text)
	return c
}

// show is the whole cache as text.
func show(c *Cache) string {
	var l []string
	for _, kept := range []bool{true, false} {
		for _, text := range c.store.Keys(kept) {
			k, _ := Parse(text)
			until, _ := c.queue.At(text)
			l = append(l, k.Norm+"="+c.entries[k].value+"@"+strconv.Itoa(until))
		}
		if kept {
			l = append(l, "|")
		}
	}
	return strings.Join(l, " ")
}

// sane checks that all parts of a cache have the same keys, and that the sizes are those of the values.
func sane(t *testing.T, c *Cache) {
	t.Helper()
	all := c.Keys()
	if len(all) != len(c.entries) || len(all) != len(c.queue.Keys()) {
		t.Fatalf("%d keys, %d entries, %d times", len(all), len(c.entries), len(c.queue.Keys()))
	}
	sum := 0
	for _, k := range all {
		e, ok := c.entries[k]
		_, timed := c.queue.At(e.text)
		size, sized := c.store.Has(e.text)
		if !ok || !timed || !sized || size != Size(k, e.value) || e.text != Text(k) {
			t.Fatalf("the entry of %#v is %q, size %d", k, e, size)
		}
		sum += size
	}
	if c.Bytes() != sum {
		t.Fatalf("Bytes = %d, want %d", c.Bytes(), sum)
	}
}

// stands checks the whole cache.
func stands(t *testing.T, c *Cache, want string) {
	t.Helper()
	if got := show(c); got != strings.TrimSpace(want) {
		t.Errorf("there is %q, want %q", got, want)
	}
	var norms []string
	for _, e := range strings.Fields(strings.Replace(want, "|", "", 1)) {
		norm, _, _ := strings.Cut(e, "=")
		norms = append(norms, norm)
	}
	if got := c.Keys(); !slices.Equal(got, keys(strings.Join(norms, " "))) {
		t.Errorf("Keys = %#v, want those of %q", got, want)
	}
	sane(t, c)
}

// puts checks a Put that is right, and which keys it tells.
func puts(t *testing.T, c *Cache, norm, value string, now int, told string) {
	t.Helper()
	if got, err := c.Put(key(norm), value, now); err != api.OK || !slices.Equal(got, keys(told)) {
		t.Errorf("Put(%q, %q, %d) = %#v, %d, want %q", norm, value, now, got, err, told)
	}
}

// gets checks a Get of a key that is there, and whose time is later.
func gets(t *testing.T, c *Cache, norm string, now int, value string) {
	t.Helper()
	if got, ok := c.Get(key(norm), now); got != value || !ok {
		t.Errorf("Get(%q, %d) = %q, %t, want %q", norm, now, got, ok, value)
	}
}

// lacks checks a Get that tells nothing.
func lacks(t *testing.T, c *Cache, norm string, now int) {
	t.Helper()
	if got, ok := c.Get(key(norm), now); got != "" || ok {
		t.Errorf("Get(%q, %d) = %q, %t", norm, now, got, ok)
	}
}

// ticks checks a Tick, and which keys it tells.
func ticks(t *testing.T, c *Cache, now int, told string) {
	t.Helper()
	if got := c.Tick(now); !slices.Equal(got, keys(told)) {
		t.Errorf("Tick(%d) = %#v, want %q", now, got, told)
	}
}

// P12.3, P12.4: the example of the chapter
func TestExample(t *testing.T) {
	c := cache(t, 100, 50, 60, 3)
	puts(t, c, "k", "v", 5, "")
	gets(t, c, "k", 7, "v")
	lacks(t, c, "k", 8)
}

// P12.2: budgets and times that can be, at their edges
func TestNew(t *testing.T) {
	for _, n := range [][4]int{
		{100, 50, 60, 1}, {100, 50, 60, times}, {100, 50, 60, times - 1}, {100, 50, 60, 2}, {100, 0, 100, 1}, {100, 100, 1, 1}, {100, 100, 100, 1},
		{1, 0, 1, 1}, {1, 1, 1, times}, {api.MaxBytes, api.MaxBytes, api.MaxBytes, 1}, {api.MaxBytes, 0, 1, times},
	} {
		c := cache(t, n[0], n[1], n[2], n[3])
		stands(t, c, "|")
		lacks(t, c, "a", 0)
		ticks(t, c, math.MaxInt, "")
		if c.Bytes() != 0 || len(c.Keys()) != 0 || c.Flush() != 0 || c.Drop(key("a")) {
			t.Errorf("%v: a new cache has entries", n)
		}
	}
	// Each of the four is the one that was handed in.
	c := cache(t, 60, 24, 30, 7)
	puts(t, c, "a", "", 0, "")
	gets(t, c, "a", 6, "")
	puts(t, c, "b", "123456", 1, "")
	gets(t, c, "b", 7, "123456")
	stands(t, c, "a=@7 | b=123456@8")
	puts(t, c, "c", "123", 2, "b")
	if _, err := c.Put(key("d"), "1234567", 2); err != api.ErrBig {
		t.Errorf("a size above most: %d", err)
	}
}

// P12.2: budgets and times that can't be
func TestNewWrong(t *testing.T) {
	for _, n := range [][4]int{
		{100, 50, 60, 0}, {100, 50, 60, -1}, {100, 50, 60, times + 1}, {100, 50, 60, 2 * times}, {100, 50, 60, math.MaxInt}, {100, 50, 60, math.MinInt},
		{0, 0, 1, 1}, {-1, 0, 1, 1}, {api.MaxBytes + 1, 0, 1, 1}, {100, -1, 60, 1}, {100, 101, 60, 1}, {100, 50, 0, 1}, {100, 50, 101, 1}, {100, 50, -1, times},
		{math.MinInt, 0, 1, 1}, {math.MaxInt, 0, 1, 1}, {100, math.MinInt, 60, 1}, {100, math.MaxInt, 60, 1}, {100, 50, math.MinInt, 1}, {100, 50, math.MaxInt, 1},
		{0, 0, 0, 0}, {0, 1, 2, times + 1}, {100, 101, 60, 0}, {100, 50, 101, -1}, {math.MinInt, math.MinInt, math.MinInt, math.MinInt},
	} {
		if c, err := New(n[0], n[1], n[2], n[3]); c != nil || err != api.ErrArg {
			t.Errorf("New(%d, %d, %d, %d) = %v, %d", n[0], n[1], n[2], n[3], c, err)
		}
	}
}

// P12.3: times at their edges, and those that can't be, be the key there or not
func TestPutTimes(t *testing.T) {
	for _, ttl := range []int{1, 8, times - 1, times} {
		for _, there := range []string{"", "a", "b", "b a", "a b"} {
			for _, norm := range []string{"a", "z"} {
				c := cache(t, 200, 100, 60, ttl)
				for _, old := range strings.Fields(there) {
					puts(t, c, old, "old", 3, "")
				}
				before := show(c)
				for _, now := range []int{-1, times + 1, -8, -times, 2 * times, math.MinInt, math.MaxInt} {
					if told, err := c.Put(key(norm), "new", now); len(told) != 0 || err != api.ErrArg {
						t.Errorf("Put(%q, %d) = %#v, %d", norm, now, told, err)
					}
					stands(t, c, before)
				}
				for _, now := range []int{0, times, 1, times - 1} {
					puts(t, c, norm, "new", now, "")
					d := c.Copy()
					gets(t, d, norm, now+ttl-1, "new")
					lacks(t, d, norm, now+ttl)
					d = c.Copy()
					if slices.Contains(d.Tick(now+ttl-1), key(norm)) || !slices.Contains(d.Tick(now+ttl), key(norm)) {
						t.Errorf("put at %d, ttl %d: %q is not due at its time", now, ttl, norm)
					}
				}
			}
		}
	}
}

// P12.3: keys that are not right, and sizes that are too great, change nothing
func TestPutWrong(t *testing.T) {
	const from = "a=123456@8 | b=yy@9 c=x@7"
	c := filled(t, 100, 50, 30, 5, from)
	for _, k := range wrongKeys() {
		for _, value := range []string{"", "v", strings.Repeat("v", 200)} {
			for _, now := range []int{0, 5, times, -1, times + 1, math.MinInt, math.MaxInt} {
				if told, err := c.Put(k, value, now); len(told) != 0 || err != api.ErrArg {
					t.Fatalf("Put(%#v, %q, %d) = %#v, %d", k, value, now, told, err)
				}
			}
		}
	}
	stands(t, c, from)
	for _, norm := range []string{"a", "b", "c", "z"} {
		for _, n := range []int{7, 8, 76, 77, 100, 5000} {
			for now, want := range map[int]api.Errno{0: api.ErrBig, 6: api.ErrBig, times: api.ErrBig, -1: api.ErrArg, times + 1: api.ErrArg} {
				if told, err := c.Put(key(norm), strings.Repeat("v", n), now); len(told) != 0 || err != want {
					t.Errorf("Put(%q, %d bytes, %d) = %#v, %d, want %d", norm, n, now, told, err, want)
				}
				stands(t, c, from)
			}
		}
	}
	// A key's bytes count, too.
	long := Key{Db: strings.Repeat("d", 10), Role: strings.Repeat("r", 10), Norm: strings.Repeat("n", 10)}
	if told, err := c.Put(long, "", 0); len(told) != 0 || err != api.ErrBig {
		t.Errorf("Put of a long key = %#v, %d", told, err)
	}
	stands(t, c, from)
	// The order of times is as before, too.
	ticks(t, c, 9, "c a b")
}

// P12.3: what is put is the newest one of the tried segment, with a size of just the most there may be, too
func TestPut(t *testing.T) {
	c := cache(t, 100, 50, 30, 10)
	puts(t, c, "a", "123456", 0, "")
	stands(t, c, "| a=123456@10")
	puts(t, c, "b", "", 5, "")
	stands(t, c, "| b=@15 a=123456@10")
	gets(t, c, "a", 5, "123456")
	puts(t, c, "c", "12345", 3, "")
	stands(t, c, "a=123456@10 | c=12345@13 b=@15")
	// A least value, and one of any bytes
	puts(t, c, "b", "\x00\xff", 9, "")
	gets(t, c, "b", 9, "\x00\xff")
}

// P12.3: which ones go for room, and in which order they are told
func TestPutRoom(t *testing.T) {
	for _, f := range []struct{ from, value, told, want string }{
		// Room is there, just so, or lacks a byte.
		{"| a=@8 b=@9", "123456", "", "| x=123456@15 a=@8 b=@9"},
		{"a=@8 | b=12@9", "12345678901234567890123456", "", "a=@8 | x=12345678901234567890123456@15 b=12@9"},
		{"a=@8 | b=12@9", "123456789012345678901234567", "b", "a=@8 | x=123456789012345678901234567@15"},
		{"| a=@8 b=12@9", "123456789012345678901234567", "b", "| x=123456789012345678901234567@15 a=@8"},
		{"b=12@9 a=@8 |", "123456789012345678901234567", "a", "b=12@9 | x=123456789012345678901234567@15"},
		// The last ones of the tried segment go first, then those of the kept one, whatever their times.
		{"| a=@8 b=@9 c=@7 d=@9", "1", "d", "| x=1@15 a=@8 b=@9 c=@7"},
		{"| a=@8 b=@9 c=@7 d=@9", "1234567890123456789012345", "d c", "| x=1234567890123456789012345@15 a=@8 b=@9"},
		{"a=@6 | b=@9 c=@7 d=@9", "12345678901234567890123456789012345678901234567890", "d c b", "a=@6 | x=12345678901234567890123456789012345678901234567890@15"},
		{"a=@6 b=@9 | c=@7 d=@9", "12345678901234567890123456789012345678901234567890", "d c b", "a=@6 | x=12345678901234567890123456789012345678901234567890@15"},
		{"c=@9 a=@6 | b=@9 d=@7", "1234567890123456789012345678901234567890123456789012345678901234567890123456", "d b a c", "| x=1234567890123456789012345678901234567890123456789012345678901234567890123456@15"},
	} {
		c := filled(t, 100, 60, 100, 5, f.from)
		puts(t, c, "x", f.value, 10, f.told)
		stands(t, c, f.want)
		// What went is not there any more, nor due.
		for _, norm := range strings.Fields(f.told) {
			lacks(t, c, norm, 0)
			if c.Drop(key(norm)) {
				t.Errorf("%q went, and is there", norm)
			}
		}
		stands(t, c, f.want)
		if got := c.Tick(14); len(got)+1+len(strings.Fields(f.told)) != 1+strings.Count(f.from, "=") {
			t.Errorf("due are %#v", got)
		}
		stands(t, c, "| x="+f.value+"@15")
	}
}

// P12.3: a key that is put again has the new value and the new time
func TestPutAgain(t *testing.T) {
	for _, f := range []struct {
		from, value string
		now         int
		told, want  string
	}{
		{"| x=old@8", "new", 4, "", "| x=new@9"},
		{"x=old@8 |", "new", 4, "", "| x=new@9"},
		{"| x=old@8", "old", 3, "", "| x=old@8"},
		{"| x=old@8", "", 0, "", "| x=@5"},
		{"| x=old@8", "longer", 20, "", "| x=longer@25"},
		{"a=@9 | b=@9 x=old@8 c=@7", "1", 4, "", "a=@9 | x=1@9 b=@9 c=@7"},
		{"a=@9 x=old@8 | b=@9 c=@7", "1", 4, "", "a=@9 | x=1@9 b=@9 c=@7"},
		// Its own bytes count no more, and it is not told.
		{"a=@9 | b=@9 c=@7 x=old@8", "1234", 4, "", "a=@9 | x=1234@9 b=@9 c=@7"},
		{"a=@9 | b=@9 c=@7 x=old@8", "12345", 4, "c", "a=@9 | x=12345@9 b=@9"},
		{"a=@9 x=old@8 | b=@9 c=@7", "12345", 4, "c", "a=@9 | x=12345@9 b=@9"},
	} {
		c := filled(t, 100, 60, 100, 5, f.from)
		puts(t, c, "x", f.value, f.now, f.told)
		stands(t, c, f.want)
		until := f.now + 5
		d := c.Copy()
		gets(t, d, "x", until-1, f.value)
		lacks(t, d, "x", until)
		// It is due once, at its new time alone.
		for now := range until {
			if got := c.Tick(now); slices.Contains(got, key("x")) {
				t.Errorf("%q: due at %d", f.want, now)
			}
		}
		if got := c.Tick(until); !slices.Contains(got, key("x")) {
			t.Errorf("%q: not due at %d", f.want, until)
		}
		ticks(t, c, math.MaxInt, strings.Join(norms(c), " "))
	}
}

// norms is the letters of a cache's keys, in the order of their times.
func norms(c *Cache) []string {
	var l []string
	for _, text := range c.queue.Keys() {
		k, _ := Parse(text)
		l = append(l, k.Norm)
	}
	return l
}

// P12.4: Get just ahead of a key's time, at it, and behind it
func TestGet(t *testing.T) {
	const from = "b=y@9 | a=x@8 c=z@7"
	for _, f := range []struct {
		norm string
		now  int
		want string // empty: there is none
		left string
	}{
		{"a", 7, "x", "a=x@8 b=y@9 | c=z@7"}, {"a", 8, "", "b=y@9 | c=z@7"}, {"a", 9, "", "b=y@9 | c=z@7"}, {"a", math.MaxInt, "", "b=y@9 | c=z@7"},
		{"b", 8, "y", from}, {"b", 9, "", "| a=x@8 c=z@7"}, {"b", 10, "", "| a=x@8 c=z@7"}, {"b", times, "", "| a=x@8 c=z@7"},
		{"c", 6, "z", "c=z@7 b=y@9 | a=x@8"}, {"c", 7, "", "b=y@9 | a=x@8"}, {"c", api.MaxTime, "", "b=y@9 | a=x@8"},
		// Times ahead of the Put, and those that no Put may have
		{"a", 3, "x", "a=x@8 b=y@9 | c=z@7"}, {"a", 0, "x", "a=x@8 b=y@9 | c=z@7"}, {"a", -1, "x", "a=x@8 b=y@9 | c=z@7"}, {"b", math.MinInt, "y", from},
		// A key that is not there
		{"n", 0, "", from}, {"n", 8, "", from}, {"n", math.MaxInt, "", from}, {"n", math.MinInt, "", from}, {"", 8, "", from},
	} {
		c := filled(t, 200, 60, 60, 5, from)
		if got, ok := c.Get(key(f.norm), f.now); got != f.want || ok != (f.want != "") {
			t.Errorf("Get(%q, %d) = %q, %t, want %q", f.norm, f.now, got, ok, f.want)
		}
		stands(t, c, f.left)
		// What went by a Get is gone at all times.
		if f.want == "" {
			lacks(t, c, f.norm, 0)
			lacks(t, c, f.norm, math.MinInt)
			stands(t, c, f.left)
		}
	}
	// Keys that are not right are not there.
	c := filled(t, 200, 60, 60, 5, from)
	for _, k := range wrongKeys() {
		if got, ok := c.Get(k, 0); got != "" || ok || c.Drop(k) {
			t.Errorf("Get(%#v) = %q, %t", k, got, ok)
		}
	}
	stands(t, c, from)
}

// P12.4: an empty value is one, too
func TestGetEmpty(t *testing.T) {
	c := filled(t, 100, 50, 60, 5, "| a=@8")
	gets(t, c, "a", 7, "")
	stands(t, c, "a=@8 |")
	lacks(t, c, "a", 8)
	stands(t, c, "|")
}

// P12.4: a Get is a use: it moves a key as slru.Touch does, and its time stays
func TestGetUses(t *testing.T) {
	for _, f := range []struct{ from, norm, want string }{
		{"| a=@8 b=@9 c=@7", "a", "a=@8 | b=@9 c=@7"},
		{"| a=@8 b=@9 c=@7", "c", "c=@7 | a=@8 b=@9"},
		{"a=@8 b=@9 | c=@7", "a", "a=@8 b=@9 | c=@7"},
		{"a=@8 b=@9 | c=@7", "b", "b=@9 a=@8 | c=@7"},
		// The kept segment has room for two.
		{"a=@8 b=@9 | c=@7", "c", "c=@7 a=@8 | b=@9"},
		{"a=@8 b=@9 | d=@7 c=@7", "c", "c=@7 a=@8 | b=@9 d=@7"},
		{"a=@8 b=@9 | c=123456789012@7", "c", "c=123456789012@7 | a=@8 b=@9"},
		// One that is greater than the whole kept segment stays tried.
		{"a=@8 | b=@9 c=12345678901234567890123456@7", "c", "a=@8 | c=12345678901234567890123456@7 b=@9"},
	} {
		c := filled(t, 200, 49, 60, 5, f.from)
		value := c.entries[key(f.norm)].value
		gets(t, c, f.norm, 6, value)
		stands(t, c, f.want)
		if got := norms(c); !slices.Equal(got, norms(filled(t, 200, 49, 60, 5, f.from))) {
			t.Errorf("%q: the order of times is %q", f.want, got)
		}
	}
	// Who is used stays longer.
	c := filled(t, 72, 72, 60, 5, "| a=@8 b=@8 c=@8")
	gets(t, c, "c", 5, "")
	puts(t, c, "d", "", 5, "b")
	gets(t, c, "a", 5, "")
	puts(t, c, "e", "", 5, "d")
	stands(t, c, "a=@8 c=@8 | e=@10")
}

// P12.4: which keys go when a time has come, and in which order they are told
func TestTick(t *testing.T) {
	// The order in which they are put is e a f d c b.
	const from = "a=1@7 e=2@9 | b=3@7 c=@1 d=4@9 f=5@7"
	for _, f := range []struct {
		now        int
		told, left string
	}{
		{math.MinInt, "", from}, {-1, "", from}, {0, "", from}, {-times, "", from},
		{1, "c", "a=1@7 e=2@9 | b=3@7 d=4@9 f=5@7"}, {2, "c", "a=1@7 e=2@9 | b=3@7 d=4@9 f=5@7"}, {6, "c", "a=1@7 e=2@9 | b=3@7 d=4@9 f=5@7"},
		{7, "c a f b", "e=2@9 | d=4@9"}, {8, "c a f b", "e=2@9 | d=4@9"},
		{9, "c a f b e d", "|"}, {10, "c a f b e d", "|"}, {times, "c a f b e d", "|"}, {api.MaxTime, "c a f b e d", "|"}, {math.MaxInt, "c a f b e d", "|"},
	} {
		c := filled(t, 300, 60, 60, 1, from)
		ticks(t, c, f.now, f.told)
		stands(t, c, f.left)
		for _, norm := range strings.Fields(f.told) {
			lacks(t, c, norm, math.MinInt)
			if c.Drop(key(norm)) {
				t.Errorf("%q was due, and is there", norm)
			}
		}
		for _, now := range []int{f.now, -1, math.MinInt} {
			ticks(t, c, now, "")
		}
		stands(t, c, f.left)
	}
	// One less than the first time, just that, and behind all
	c := filled(t, 200, 60, 60, 5, "b=y@9 | a=x@8 c=z@7 d=@7")
	ticks(t, c, 6, "")
	ticks(t, c, 7, "d c")
	stands(t, c, "b=y@9 | a=x@8")
	ticks(t, c, 100, "a b")
	stands(t, c, "|")
	ticks(t, c, 100, "")
	// A use changes nothing of a time, and a Put does.
	c = filled(t, 200, 60, 60, 5, "| a=@6 b=@6 c=@7")
	gets(t, c, "b", 5, "")
	puts(t, c, "a", "", 1, "")
	ticks(t, c, 7, "b a c")
	c = filled(t, 200, 60, 60, 5, "| a=@6 b=@6 c=@7")
	puts(t, c, "b", "", 2, "")
	ticks(t, c, 7, "a c b")
}

// P12.5: Drop
func TestDrop(t *testing.T) {
	const from = "a=1@8 b=22@9 | c=333@7 d=@8"
	for _, f := range []struct{ norm, left string }{
		{"a", "b=22@9 | c=333@7 d=@8"}, {"b", "a=1@8 | c=333@7 d=@8"}, {"c", "a=1@8 b=22@9 | d=@8"}, {"d", "a=1@8 b=22@9 | c=333@7"},
	} {
		c := filled(t, 200, 60, 60, 5, from)
		if c.Drop(key("n")) || c.Drop(Key{}) || c.Drop(Key{"d", "r", 1, "a"}) || c.Drop(Key{"d", "", 0, "a"}) || c.Drop(Key{"", "r", 0, "a"}) {
			t.Error("a key that is not there was dropped")
		}
		stands(t, c, from)
		if !c.Drop(key(f.norm)) || c.Drop(key(f.norm)) {
			t.Errorf("Drop(%q)", f.norm)
		}
		stands(t, c, f.left)
		lacks(t, c, f.norm, 0)
		if got := c.Tick(math.MaxInt); slices.Contains(got, key(f.norm)) || len(got) != 3 {
			t.Errorf("due are %#v", got)
		}
		// It is as one that was never there.
		puts(t, c, f.norm, "v", 0, "")
		stands(t, c, "| "+f.norm+"=v@5")
	}
	// One whose time has come is there till it goes.
	c := filled(t, 200, 60, 60, 5, "| a=@8")
	puts(t, c, "b", "", 20, "")
	if !c.Drop(key("a")) {
		t.Error("a key was not there")
	}
	stands(t, c, "| b=@25")
}

// P12.5: Flush
func TestFlush(t *testing.T) {
	for _, from := range []string{"|", "| a=@8", "a=@8 |", "a=1@8 b=22@9 | c=333@7 d=@8", "a=1@8 b=22@9 |", "| c=333@7 d=@8"} {
		c := filled(t, 200, 60, 60, 5, from)
		if got, want := c.Flush(), strings.Count(from, "="); got != want {
			t.Errorf("Flush of %q = %d, want %d", from, got, want)
		}
		stands(t, c, "|")
		if got := c.Flush(); got != 0 {
			t.Errorf("Flush a second time = %d", got)
		}
		ticks(t, c, math.MaxInt, "")
		for _, norm := range []string{"a", "b", "c", "d"} {
			lacks(t, c, norm, 0)
		}
		// Its budgets, and its ttl, are as before.
		puts(t, c, "a", strings.Repeat("v", 36), 0, "")
		gets(t, c, "a", 4, strings.Repeat("v", 36))
		if _, err := c.Put(key("a"), strings.Repeat("v", 37), 0); err != api.ErrBig {
			t.Errorf("Put of a size above most: %d", err)
		}
		stands(t, c, "a="+strings.Repeat("v", 36)+"@5 |")
	}
}

// P12.5: Keys and Bytes
func TestKeysAndBytes(t *testing.T) {
	c := cache(t, 200, 60, 60, 5)
	check := func(norms string, bytes int) {
		t.Helper()
		if got := c.Keys(); !slices.Equal(got, keys(norms)) || c.Bytes() != bytes {
			t.Errorf("keys are %#v, %d, want %q, %d", got, c.Bytes(), norms, bytes)
		}
	}
	check("", 0)
	puts(t, c, "a", "1", 0, "")
	check("a", 25)
	puts(t, c, "b", "", 0, "")
	check("b a", 49)
	puts(t, c, "c", "22", 1, "")
	check("c b a", 75)
	gets(t, c, "a", 2, "1")
	check("a c b", 75)
	gets(t, c, "b", 2, "")
	check("b a c", 75)
	gets(t, c, "c", 2, "22")
	check("c b a", 75)
	puts(t, c, "b", "333", 2, "")
	check("c b a", 78)
	c.Drop(key("a"))
	check("c b", 53)
	lacks(t, c, "c", 6)
	check("b", 27)
	ticks(t, c, 7, "b")
	check("", 0)
}

// P12.3 to P12.5: keys that differ in one part alone, or whose parts lie otherwise, are apart
func TestKeysApart(t *testing.T) {
	all := []Key{{}, {Format: 1}, {Db: "a"}, {Role: "a"}, {Norm: "a"}, {"a", "b", 0, "c"}, {"a", "b", 1, "c"}, {"ab", "", 0, "c"}, {"", "ab", 0, "c"}, {"a", "", 0, "bc"}, {"", "a", 0, "bc"}, {"A", "b", 0, "c"}, {"a", "b", 0, "C"}, {"\xff", "b", 0, "c"}}
	c := cache(t, 2000, 1000, 100, 10)
	for i, k := range all {
		if told, err := c.Put(k, strconv.Itoa(i), i); len(told) != 0 || err != api.OK {
			t.Fatalf("Put(%#v) = %#v, %d", k, told, err)
		}
		if got := c.Keys(); len(got) != i+1 || got[0] != k {
			t.Errorf("keys are %#v", got)
		}
	}
	sane(t, c)
	d := c.Copy()
	for i, k := range all {
		if got, ok := c.Get(k, i); got != strconv.Itoa(i) || !ok {
			t.Errorf("Get(%#v) = %q, %t", k, got, ok)
		}
		if got := d.Tick(i + 10); !slices.Equal(got, []Key{k}) {
			t.Errorf("Tick(%d) = %#v, want %#v", i+10, got, k)
		}
		if !c.Drop(k) || c.Drop(k) || slices.Contains(c.Keys(), k) {
			t.Errorf("Drop(%#v)", k)
		}
	}
}

// P12.5: a copy goes its own way
func TestCopy(t *testing.T) {
	const from = "d=1@7 e=@9 | a=22@8 b=@8 c=@7"
	for _, change := range []func(*Cache){
		func(c *Cache) { c.Put(key("x"), "", 5) },
		func(c *Cache) { c.Put(key("x"), strings.Repeat("v", 76), 5) },
		func(c *Cache) { c.Put(key("a"), "new", 5) },
		func(c *Cache) { c.Put(key("a"), "22", 9) },
		func(c *Cache) { c.Put(key("d"), "1", 2) },
		func(c *Cache) { c.Get(key("e"), 6) },
		func(c *Cache) { c.Get(key("a"), 6) },
		func(c *Cache) { c.Get(key("a"), 8) },
		func(c *Cache) { c.Drop(key("b")) },
		func(c *Cache) { c.Drop(key("d")) },
		func(c *Cache) { c.Tick(7) },
		func(c *Cache) { c.Tick(100) },
		func(c *Cache) { c.Flush() },
	} {
		c := filled(t, 125, 50, 100, 5, from)
		d := c.Copy()
		if c == d {
			t.Fatal("a copy is the cache itself")
		}
		stands(t, d, from)
		change(d)
		left := show(d)
		if left == from {
			t.Error("nothing changed")
		}
		stands(t, c, from)
		// The cache goes the same way: the copy had its budgets and its times, too.
		change(c)
		stands(t, c, left)
		stands(t, d, left)
		e := d.Copy().Copy()
		c.Flush()
		stands(t, d, left)
		stands(t, e, left)
		d.Put(key("y"), "", 6)
		stands(t, e, left)
		if _, err := e.Put(key("x"), strings.Repeat("v", 77), 6); err != api.ErrBig {
			t.Errorf("a copy's greatest size: %d", err)
		}
	}
	c := cache(t, 100, 50, 60, 5).Copy()
	stands(t, c, "|")
	puts(t, c, "a", "", 5, "")
	stands(t, c, "| a=@10")
}

// P12.3 to P12.5: what is told goes its own way
func TestToldIsNew(t *testing.T) {
	spoil := func(l []Key) {
		for i := range l[:cap(l)] {
			l[:cap(l)][i] = Key{Db: "spoilt"}
		}
	}
	const from = "d=@9 | a=@8 b=@8 c=@7"
	c := filled(t, 100, 50, 100, 5, from)
	spoil(c.Keys())
	stands(t, c, from)
	told, _ := c.Put(key("x"), strings.Repeat("v", 20), 5)
	if len(told) != 2 {
		t.Errorf("there went %#v", told)
	}
	spoil(told)
	stands(t, c, "d=@9 | x="+strings.Repeat("v", 20)+"@10 a=@8")
	spoil(c.Tick(9))
	stands(t, c, "| x="+strings.Repeat("v", 20)+"@10")
}

// P12.3: what is kept shares no memory with what was handed in
func TestHandedIn(t *testing.T) {
	var bytes [4][]byte
	var texts [4]string
	for i := range bytes {
		bytes[i] = []byte{byte('a' + i)}
		texts[i] = unsafe.String(&bytes[i][0], 1)
	}
	c := cache(t, 100, 50, 60, 5)
	if _, err := c.Put(Key{Db: texts[0], Role: texts[1], Norm: texts[2]}, texts[3], 0); err != api.OK {
		t.Fatal(err)
	}
	for i := range bytes {
		bytes[i][0] = 'z'
	}
	k := Key{Db: "a", Role: "b", Norm: "c"}
	if got, ok := c.Get(k, 0); got != "d" || !ok || !slices.Equal(c.Keys(), []Key{k}) {
		t.Errorf("Get = %q, %t; keys are %#v", got, ok, c.Keys())
	}
	sane(t, c)
}

// A nil cache, and those that New did not give
func TestForeign(t *testing.T) {
	const from = "c=1@7 | a=@8 b=22@9"
	c := filled(t, 200, 60, 60, 5, from)
	cCopy := *c
	for _, f := range []*Cache{nil, {}, new(Cache), &cCopy, {ttl: 5}, {ttl: 5, entries: c.entries, store: c.store, queue: c.queue}} {
		for _, k := range []Key{key("a"), key("c"), key("z"), {}, {Format: 2}, {Db: "\x00"}} {
			for _, now := range []int{0, 5, 8, 100, -1, times, times + 1, math.MaxInt, math.MinInt} {
				for _, value := range []string{"", "v", strings.Repeat("v", 1000)} {
					if told, err := f.Put(k, value, now); len(told) != 0 || err != api.ErrNil {
						t.Errorf("Put(%#v, %d) = %#v, %d", k, now, told, err)
					}
				}
				if got, ok := f.Get(k, now); got != "" || ok {
					t.Errorf("Get(%#v, %d) = %q, %t", k, now, got, ok)
				}
				if told := f.Tick(now); len(told) != 0 {
					t.Errorf("Tick(%d) = %#v", now, told)
				}
			}
			if f.Drop(k) {
				t.Errorf("Drop(%#v) = true", k)
			}
		}
		if n, all, bytes := f.Flush(), f.Keys(), f.Bytes(); n != 0 || len(all) != 0 || bytes != 0 {
			t.Errorf("Flush = %d, Keys = %#v, Bytes = %d", n, all, bytes)
		}
		if d := f.Copy(); d != nil {
			t.Errorf("Copy = %v", d)
		}
	}
	stands(t, c, from)
}
