package slru

import (
	"math"
	"slices"
	"strconv"
	"strings"
	"testing"

	"pontoon/api"
)

// store is a store of budgets that can be.
func store(t *testing.T, all, kept, most int) *Store {
	t.Helper()
	s, err := New(all, kept, most)
	if err != api.OK || s == nil {
		t.Fatalf("New(%d, %d, %d) = %v, %d", all, kept, most, s, err)
	}
	return s
}

// filled is a store whose segments have what a text tells, as in "b3 c4 | a3": the tried one's keys and sizes, and the kept one's, the newest ones first.
func filled(t *testing.T, all, kept, most int, text string) *Store {
	t.Helper()
	s := store(t, all, kept, most)
	tried, rest, _ := strings.Cut(text, "|")
	for _, segment := range []string{rest, tried} {
		entries := strings.Fields(segment)
		slices.Reverse(entries)
		for _, e := range entries {
			key := strings.TrimRight(e, "0123456789")
			size, _ := strconv.Atoi(e[len(key):])
			puts(t, s, key, size)
			if segment == rest {
				touches(t, s, key)
			}
		}
	}
	stands(t, s, text)
	return s
}

// show is both segments as text, as in "b3 c4 | a3".
func show(s *Store) string {
	var l []string
	for _, kept := range []bool{false, true} {
		for _, key := range s.Keys(kept) {
			size, _ := s.Has(key)
			l = append(l, key+strconv.Itoa(size))
		}
		if !kept {
			l = append(l, "|")
		}
	}
	return strings.Join(l, " ")
}

// stands checks both segments, as in "b3 c4 | a3", and that their bytes are the sums of their sizes.
func stands(t *testing.T, s *Store, want string) {
	t.Helper()
	if got := show(s); got != strings.TrimSpace(want) {
		t.Errorf("there is %q, want %q", got, want)
	}
	for _, kept := range []bool{false, true} {
		sum := 0
		for _, key := range s.Keys(kept) {
			size, ok := s.Has(key)
			if size < 1 || !ok {
				t.Errorf("Has(%q) = %d, %t", key, size, ok)
			}
			sum += size
		}
		if got := s.Bytes(kept); got != sum {
			t.Errorf("Bytes(%t) = %d, want %d", kept, got, sum)
		}
	}
}

// puts checks a Put that is right, and which keys it tells.
func puts(t *testing.T, s *Store, key string, size int, told ...string) {
	t.Helper()
	if got, err := s.Put(key, size); err != api.OK || !slices.Equal(got, told) {
		t.Errorf("Put(%q, %d) = %q, %d, want %q", key, size, got, err, told)
	}
}

// touches checks a Touch of a key that is there, and which keys it tells.
func touches(t *testing.T, s *Store, key string, told ...string) {
	t.Helper()
	if got, ok := s.Touch(key); !ok || !slices.Equal(got, told) {
		t.Errorf("Touch(%q) = %q, %t, want %q", key, got, ok, told)
	}
}

// lacks checks a key that is not there, and that nothing comes of it.
func lacks(t *testing.T, s *Store, key string) {
	t.Helper()
	before := show(s)
	if size, ok := s.Has(key); size != 0 || ok {
		t.Errorf("Has(%q) = %d, %t", key, size, ok)
	}
	if told, ok := s.Touch(key); len(told) != 0 || ok {
		t.Errorf("Touch(%q) = %q, %t", key, told, ok)
	}
	if s.Drop(key) {
		t.Errorf("Drop(%q) = true", key)
	}
	stands(t, s, before)
}

// drops checks a Drop of a key that is there.
func drops(t *testing.T, s *Store, key string) {
	t.Helper()
	if !s.Drop(key) {
		t.Errorf("Drop(%q) = false", key)
	}
	lacks(t, s, key)
}

// P10.1 to P10.4: the example of the chapter
func TestExample(t *testing.T) {
	s := store(t, 10, 6, 5)
	puts(t, s, "a", 4)
	puts(t, s, "b", 4)
	touches(t, s, "a")
	puts(t, s, "c", 4, "b")
	stands(t, s, "c4 | a4")
}

// P10.1: budgets that can be, at their edges
func TestNew(t *testing.T) {
	for _, n := range [][3]int{
		{1, 0, 1}, {1, 1, 1}, {2, 1, 1}, {2, 2, 2}, {10, 0, 10}, {10, 10, 1}, {10, 6, 5}, {10, 9, 9},
		{api.MaxBytes, 0, 1}, {api.MaxBytes, api.MaxBytes, api.MaxBytes}, {api.MaxBytes, 1, api.MaxBytes - 1}, {api.MaxBytes - 1, api.MaxBytes - 1, api.MaxBytes - 1},
	} {
		all, kept, most := n[0], n[1], n[2]
		s := store(t, all, kept, most)
		stands(t, s, "|")
		lacks(t, s, "")
		lacks(t, s, "a")
		// Each of the three budgets is the one that was handed in.
		if _, err := s.Put("a", most+1); err != api.ErrBig {
			t.Errorf("%v: a size of most and one more: %d", n, err)
		}
		puts(t, s, "a", most)
		touches(t, s, "a")
		if got := s.Bytes(true) > 0; got != (most <= kept) {
			t.Errorf("%v: a size of most is kept: %t", n, got)
		}
		drops(t, s, "a")
		if most < all {
			puts(t, s, "a", most)
			puts(t, s, "b", min(most, all-most))
			puts(t, s, "b", 1)
		}
	}
}

// P10.1: budgets that can't be
func TestNewWrong(t *testing.T) {
	for _, n := range [][3]int{
		{0, 0, 1}, {0, 0, 0}, {-1, 0, 1}, {-1, -1, -1}, {api.MaxBytes + 1, 0, 1}, {api.MaxBytes + 1, api.MaxBytes + 1, api.MaxBytes + 1}, {math.MaxInt, 1, 1}, {math.MinInt, 0, 1},
		{5, -1, 1}, {5, 6, 1}, {5, math.MaxInt, 1}, {5, math.MinInt, 1}, {1, 2, 1}, {api.MaxBytes, api.MaxBytes + 1, 1}, {api.MaxBytes, -1, 1},
		{5, 1, 0}, {5, 1, 6}, {5, 1, -1}, {5, 5, math.MaxInt}, {5, 5, math.MinInt}, {5, 0, 0}, {1, 0, 2}, {api.MaxBytes, 1, api.MaxBytes + 1}, {api.MaxBytes, 1, 0},
		{0, 1, 2}, {math.MinInt, math.MinInt, math.MinInt}, {math.MaxInt, math.MaxInt, math.MaxInt},
	} {
		if s, err := New(n[0], n[1], n[2]); s != nil || err != api.ErrArg {
			t.Errorf("New(%d, %d, %d) = %v, %d", n[0], n[1], n[2], s, err)
		}
	}
}

// P10.2: what is put is the newest one of the tried segment
func TestPut(t *testing.T) {
	s := store(t, 10, 6, 5)
	puts(t, s, "a", 1)
	stands(t, s, "a1 |")
	puts(t, s, "b", 5)
	stands(t, s, "b5 a1 |")
	touches(t, s, "a")
	puts(t, s, "c", 4)
	stands(t, s, "c4 b5 | a1")
	// All is taken: the next byte lets the last one go.
	puts(t, s, "d", 1, "b")
	stands(t, s, "d1 c4 | a1")
	puts(t, s, "e", 4)
	stands(t, s, "e4 d1 c4 | a1")
}

// P10.2: sizes that can't be, and those at the edges
func TestPutWrong(t *testing.T) {
	for _, text := range []string{"|", "a5 b1 | c3", "b1 | a5 c3", "a1 |", "| a1", "d1 b1 | a1 c1"} {
		for _, key := range []string{"a", "b", "c", "z", ""} {
			s := filled(t, 10, 9, 5, text)
			for size, err := range map[int]api.Errno{0: api.ErrArg, -1: api.ErrArg, math.MinInt: api.ErrArg, 6: api.ErrBig, 11: api.ErrBig, math.MaxInt: api.ErrBig} {
				if told, e := s.Put(key, size); len(told) != 0 || e != err {
					t.Errorf("Put(%q, %d) = %q, %d, want %d", key, size, told, e, err)
				}
				stands(t, s, text)
			}
			for _, size := range []int{1, 5} {
				if _, err := s.Put(key, size); err != api.OK {
					t.Errorf("Put(%q, %d): %d", key, size, err)
				}
				if got, _ := s.Has(key); got != size || s.Keys(false)[0] != key {
					t.Errorf("Put(%q, %d): there is %q", key, size, show(s))
				}
			}
		}
	}
}

// P10.2: which ones go for room, and in which order they are told
func TestPutRoom(t *testing.T) {
	for _, f := range []struct {
		from string
		size int
		told string
		want string
	}{
		// Room for it is there, just so, or lacks a byte.
		{"a3 b3 |", 3, "", "x3 a3 b3 |"},
		{"a3 b3 |", 4, "", "x4 a3 b3 |"},
		{"a3 b3 |", 5, "b", "x5 a3 |"},
		{"| a3 b3", 4, "", "x4 | a3 b3"},
		{"| a3 b3", 5, "b", "x5 | a3"},
		{"a3 | b3", 4, "", "x4 a3 | b3"},
		{"|", 10, "", "x10 |"},
		// Of the tried segment alone: one, and several
		{"a1 b1 c2 | d6", 1, "c", "x1 a1 b1 | d6"},
		{"a1 b1 c2 | d6", 2, "c", "x2 a1 b1 | d6"},
		{"a1 b1 c2 | d6", 3, "c b", "x3 a1 | d6"},
		{"a1 b1 c2 | d6", 4, "c b a", "x4 | d6"},
		{"c2 b1 a1 | d6", 2, "a b", "x2 c2 | d6"},
		{"a9 b1 |", 1, "b", "x1 a9 |"},
		{"b1 a9 |", 1, "a", "x1 b1 |"},
		// Of both
		{"a1 b1 c2 | d6", 5, "c b a d", "x5 |"},
		{"a2 | b1 c2 d3", 5, "a d", "x5 | b1 c2"},
		{"a2 | b1 c2 d3", 8, "a d c", "x8 | b1"},
		{"a1 b3 | c1 d2 e3", 8, "b a e d", "x8 | c1"},
		{"a1 b3 | c1 d2 e3", 10, "b a e d c", "x10 |"},
		{"b1 | a9", 2, "b a", "x2 |"},
		// Of the kept one alone
		{"| a1 b2 c3", 5, "c", "x5 | a1 b2"},
		{"| a1 b2 c3", 8, "c b", "x8 | a1"},
		{"| a1 b2 c3", 9, "c b", "x9 | a1"},
		{"| a1 b2 c3", 10, "c b a", "x10 |"},
		{"| c3 b2 a1", 5, "a", "x5 | c3 b2"},
		{"| a10", 1, "a", "x1 |"},
	} {
		s := filled(t, 10, 10, 10, f.from)
		puts(t, s, "x", f.size, strings.Fields(f.told)...)
		stands(t, s, f.want)
		for _, key := range strings.Fields(f.told) {
			lacks(t, s, key)
		}
	}
}

// P10.2: a Put of a key that is there already
func TestPutAgain(t *testing.T) {
	for _, f := range []struct {
		from string
		size int
		told string
		want string
	}{
		// Alone
		{"x4 |", 4, "", "x4 |"}, {"x4 |", 3, "", "x3 |"}, {"x4 |", 5, "", "x5 |"}, {"x4 |", 10, "", "x10 |"}, {"x10 |", 10, "", "x10 |"}, {"x10 |", 1, "", "x1 |"},
		{"| x4", 4, "", "x4 |"}, {"| x4", 3, "", "x3 |"}, {"| x4", 5, "", "x5 |"}, {"| x4", 10, "", "x10 |"}, {"| x10", 10, "", "x10 |"}, {"| x10", 1, "", "x1 |"},
		// Among others of the tried segment, with no room to be made
		{"a1 x4 b1 |", 4, "", "x4 a1 b1 |"}, {"x4 a1 b1 |", 3, "", "x3 a1 b1 |"}, {"a1 b1 x4 |", 8, "", "x8 a1 b1 |"}, {"a3 x4 b3 |", 4, "", "x4 a3 b3 |"},
		{"x4 a1 | b1 c4", 4, "", "x4 a1 | b1 c4"},
		// and of the kept one
		{"a1 | b1 x4 c1", 4, "", "x4 a1 | b1 c1"}, {"a1 | x4 b1", 1, "", "x1 a1 | b1"}, {"a1 | b1 x4", 8, "", "x8 a1 | b1"}, {"a3 | x4 b3", 4, "", "x4 a3 | b3"}, {"| x9 a1", 9, "", "x9 | a1"},
		// Room must be made: its own bytes count no more, and it is not told, be it the last one.
		{"a3 b3 x4 |", 5, "b", "x5 a3 |"}, {"a3 x4 b3 |", 7, "b", "x7 a3 |"}, {"x4 a3 b3 |", 8, "b a", "x8 |"}, {"x4 a3 b3 |", 10, "b a", "x10 |"},
		{"a3 x4 | b3", 5, "a", "x5 | b3"}, {"x4 | a3 b3", 5, "b", "x5 | a3"}, {"x4 a1 | b2 c3", 9, "a c b", "x9 |"},
		{"a3 b3 | x4", 5, "b", "x5 a3 |"}, {"a3 | b3 x4", 5, "a", "x5 | b3"}, {"| a3 x4 b3", 5, "b", "x5 | a3"}, {"| x4 a3 b3", 8, "b a", "x8 |"}, {"a1 | b2 x4 c3", 10, "a c b", "x10 |"},
	} {
		s := filled(t, 10, 10, 10, f.from)
		puts(t, s, "x", f.size, strings.Fields(f.told)...)
		stands(t, s, f.want)
	}
}

// P10.3: a Touch within a segment, and from the tried one to the kept one, with room
func TestTouch(t *testing.T) {
	for _, f := range []struct{ from, key, want string }{
		// Of the tried segment: alone, the newest one, one in the middle, the last one
		{"a3 |", "a", "| a3"}, {"a1 b1 c1 |", "a", "b1 c1 | a1"}, {"a1 b1 c1 |", "b", "a1 c1 | b1"}, {"a1 b1 c1 |", "c", "a1 b1 | c1"},
		{"a1 b1 | c1 d1", "b", "a1 | b1 c1 d1"},
		// Of the kept one
		{"| a3", "a", "| a3"}, {"d1 | a1 b1 c1", "a", "d1 | a1 b1 c1"}, {"d1 | a1 b1 c1", "b", "d1 | b1 a1 c1"}, {"d1 | a1 b1 c1", "c", "d1 | c1 a1 b1"},
		{"| a2 b2 c2", "c", "| c2 a2 b2"},
		// Just what the kept segment may have
		{"a6 |", "a", "| a6"}, {"b1 a6 c1 |", "a", "b1 c1 | a6"}, {"b1 | a6", "a", "b1 | a6"},
		// and one byte more, and a greater one: it stays.
		{"a7 |", "a", "a7 |"}, {"b1 a7 c1 |", "a", "a7 b1 c1 |"}, {"b1 a7 |", "a", "a7 b1 |"}, {"a7 b1 |", "a", "a7 b1 |"}, {"b1 a7 | c1", "a", "a7 b1 | c1"}, {"a10 |", "a", "a10 |"}, {"b1 a8 | c1 ", "a", "a8 b1 | c1"},
		// The segment is full then, just so.
		{"a3 b1 | c3", "a", "b1 | a3 c3"}, {"a1 | b5", "a", "| a1 b5"},
	} {
		s := filled(t, 10, 6, 10, f.from)
		touches(t, s, f.key)
		stands(t, s, f.want)
		lacks(t, s, "z")
		lacks(t, s, "")
	}
	s := store(t, 10, 6, 10)
	lacks(t, s, "a")
}

// P10.3: which ones go from the kept segment to the tried one, where they stand then, and in which order they are told
func TestTouchMoves(t *testing.T) {
	for _, f := range []struct{ from, key, told, want string }{
		{"a4 | b3", "a", "b", "b3 | a4"},
		{"a4 c1 | b3", "a", "b", "b3 c1 | a4"},
		{"c1 a4 | b3", "a", "b", "b3 c1 | a4"},
		{"a1 d1 | b3 c3", "a", "c", "c3 d1 | a1 b3"},
		{"d1 a2 | b3 c3", "a", "c", "c3 d1 | a2 b3"},
		{"a4 | b3 c3", "a", "c b", "b3 c3 | a4"},
		{"a4 | b1 c2 d3", "a", "d c", "c2 d3 | a4 b1"},
		{"a3 e1 | b1 c2 d3", "a", "d", "d3 e1 | a3 b1 c2"},
		{"a4 | d3 c2 b1", "a", "b c d", "d3 c2 b1 | a4"},
		{"a4 | b3 c1 d2", "a", "d c b", "b3 c1 d2 | a4"},
		{"a6 | b1 c1 d1", "a", "d c b", "b1 c1 d1 | a6"},
		{"a6 e1 | b1 c1 d1", "a", "d c b", "b1 c1 d1 e1 | a6"},
		{"a6 | b3", "a", "b", "b3 | a6"},
		// Of what is too great nothing comes, nor of one that is kept.
		{"a7 | b3", "a", "", "a7 | b3"},
		{"a4 | b3 c3", "c", "", "a4 | c3 b3"},
	} {
		s := filled(t, 10, 6, 10, f.from)
		touches(t, s, f.key, strings.Fields(f.told)...)
		stands(t, s, f.want)
	}
}

// P10.3: a store that keeps nothing
func TestTouchKeptNothing(t *testing.T) {
	s := filled(t, 10, 0, 10, "a1 b2 c3 |")
	touches(t, s, "b")
	stands(t, s, "b2 a1 c3 |")
	touches(t, s, "b")
	touches(t, s, "c")
	touches(t, s, "a")
	stands(t, s, "a1 c3 b2 |")
	puts(t, s, "d", 5, "b")
	puts(t, s, "e", 10, "c", "a", "d")
	touches(t, s, "e")
	stands(t, s, "e10 |")
}

// P10.4: Drop, and Has
func TestDrop(t *testing.T) {
	for _, f := range []struct{ key, want string }{
		{"a", "b2 c3 | d1 e2 f1"}, {"b", "a1 c3 | d1 e2 f1"}, {"c", "a1 b2 | d1 e2 f1"},
		{"d", "a1 b2 c3 | e2 f1"}, {"e", "a1 b2 c3 | d1 f1"}, {"f", "a1 b2 c3 | d1 e2"},
	} {
		s := filled(t, 10, 6, 5, "a1 b2 c3 | d1 e2 f1")
		lacks(t, s, "z")
		lacks(t, s, "")
		drops(t, s, f.key)
		stands(t, s, f.want)
		// Its bytes can be taken again, and it is as one that was never there.
		puts(t, s, f.key, 1)
		if size, ok := s.Has(f.key); size != 1 || !ok || s.Keys(false)[0] != f.key {
			t.Errorf("put again: there is %q", show(s))
		}
	}
	s := filled(t, 10, 6, 5, "a5 | b5")
	drops(t, s, "b")
	stands(t, s, "a5 |")
	drops(t, s, "a")
	stands(t, s, "|")
	puts(t, s, "b", 5)
	puts(t, s, "a", 5)
	stands(t, s, "a5 b5 |")
}

// P10.4: keys are any bytes
func TestAnyKey(t *testing.T) {
	keys := []string{"", "\x00", "\x00\x00", "\xff", "a b", "A", "a", "é", "|", strings.Repeat("k", 5000)}
	s := store(t, 100, 50, 5)
	for i, key := range keys {
		lacks(t, s, key)
		puts(t, s, key, 1+i%5)
	}
	for i, key := range keys {
		if size, ok := s.Has(key); size != 1+i%5 || !ok {
			t.Errorf("Has(%q) = %d, %t", key, size, ok)
		}
		touches(t, s, key)
		if i%2 == 0 {
			drops(t, s, key)
		}
	}
	want := []string{keys[9], keys[7], keys[5], keys[3], keys[1]}
	if got := s.Keys(true); !slices.Equal(got, want) || len(s.Keys(false)) != 0 {
		t.Errorf("there is %q, want %q", got, want)
	}
	// The empty one as it goes from a segment, and for room
	s = store(t, 10, 5, 5)
	puts(t, s, "", 5)
	touches(t, s, "")
	touches(t, s, "")
	puts(t, s, "a", 5)
	touches(t, s, "a", "")
	stands(t, s, "5 | a5")
	puts(t, s, "b", 1, "")
	stands(t, s, "b1 | a5")
}

// P10.4: Keys and Bytes of each segment
func TestKeysAndBytes(t *testing.T) {
	s := store(t, 10, 6, 5)
	check := func(tried, kept string, triedBytes, keptBytes int) {
		t.Helper()
		if got := s.Keys(false); strings.Join(got, " ") != tried || s.Bytes(false) != triedBytes {
			t.Errorf("tried are %q, %d, want %q, %d", got, s.Bytes(false), tried, triedBytes)
		}
		if got := s.Keys(true); strings.Join(got, " ") != kept || s.Bytes(true) != keptBytes {
			t.Errorf("kept are %q, %d, want %q, %d", got, s.Bytes(true), kept, keptBytes)
		}
	}
	check("", "", 0, 0)
	puts(t, s, "a", 2)
	check("a", "", 2, 0)
	puts(t, s, "b", 3)
	check("b a", "", 5, 0)
	touches(t, s, "a")
	check("b", "a", 3, 2)
	puts(t, s, "c", 5)
	check("c b", "a", 8, 2)
	touches(t, s, "b")
	check("c", "b a", 5, 5)
	touches(t, s, "c", "a", "b")
	check("b a", "c", 5, 5)
	puts(t, s, "c", 1)
	check("c b a", "", 6, 0)
	drops(t, s, "b")
	check("c a", "", 3, 0)
}

// P10.4: a copy goes its own way
func TestCopy(t *testing.T) {
	const from = "a1 b2 c1 | d2 e1 f2"
	for _, change := range []func(*Store){
		func(s *Store) { s.Put("x", 1) },
		func(s *Store) { s.Put("x", 5) },
		func(s *Store) { s.Put("b", 3) },
		func(s *Store) { s.Put("e", 1) },
		func(s *Store) { s.Touch("c") },
		func(s *Store) { s.Touch("b") },
		func(s *Store) { s.Touch("f") },
		func(s *Store) { s.Drop("a") },
		func(s *Store) { s.Drop("f") },
	} {
		s := filled(t, 10, 5, 5, from)
		c := s.Copy()
		if c == s {
			t.Fatal("a copy is the store itself")
		}
		stands(t, c, from)
		change(c)
		stands(t, s, from)
		// The store goes the same way: the copy had its budgets, too.
		left := show(c)
		if left == from {
			t.Error("nothing changed")
		}
		change(s)
		stands(t, s, left)
		stands(t, c, left)
		d := c.Copy().Copy()
		change(s)
		stands(t, c, left)
		stands(t, d, left)
		if _, err := c.Put("x", 6); err != api.ErrBig {
			t.Errorf("a copy's greatest size: %d", err)
		}
	}
	stands(t, store(t, 10, 5, 5).Copy(), "|")
}

// P10.2 to P10.4: what is told goes its own way
func TestToldIsNew(t *testing.T) {
	spoil := func(l []string) {
		for i := range l[:cap(l)] {
			l[:cap(l)][i] = "spoilt"
		}
	}
	s := filled(t, 10, 6, 10, "a1 b1 c1 | d1 e2 f2")
	for _, kept := range []bool{false, true} {
		want := slices.Clone(s.Keys(kept))
		spoil(s.Keys(kept))
		if got := s.Keys(kept); !slices.Equal(got, want) {
			t.Errorf("keys are %q, want %q", got, want)
		}
	}
	told, _ := s.Put("x", 5)
	spoil(told)
	stands(t, s, "x5 | d1 e2 f2")
	told, _ = s.Touch("x")
	spoil(told)
	stands(t, s, "e2 f2 | x5 d1")
}

// A nil store, and those that New did not give
func TestForeign(t *testing.T) {
	s := filled(t, 10, 6, 5, "a1 b2 | c3")
	sCopy := *s
	for _, f := range []*Store{nil, {}, new(Store), &sCopy, {all: 10, kept: 6, most: 5}} {
		for _, key := range []string{"a", "c", "z", ""} {
			for _, size := range []int{1, 5, 0, -1, 6, math.MaxInt, math.MinInt} {
				if told, err := f.Put(key, size); len(told) != 0 || err != api.ErrNil {
					t.Errorf("Put(%q, %d) = %q, %d", key, size, told, err)
				}
			}
			if told, ok := f.Touch(key); len(told) != 0 || ok {
				t.Errorf("Touch(%q) = %q, %t", key, told, ok)
			}
			if f.Drop(key) {
				t.Errorf("Drop(%q) = true", key)
			}
			if size, ok := f.Has(key); size != 0 || ok {
				t.Errorf("Has(%q) = %d, %t", key, size, ok)
			}
		}
		for _, kept := range []bool{false, true} {
			if keys, n := f.Keys(kept), f.Bytes(kept); len(keys) != 0 || n != 0 {
				t.Errorf("Keys(%t) = %q, Bytes = %d", kept, keys, n)
			}
		}
		if c := f.Copy(); c != nil {
			t.Errorf("Copy = %v", c)
		}
	}
	stands(t, s, "a1 b2 | c3")
}
