package expiry

import (
	"math"
	"slices"
	"strconv"
	"strings"
	"testing"

	"pontoon/api"
)

// queue is a queue of what a text tells, as in "a5 b3 c5": keys with deadlines, in the order in which they are set.
func queue(t *testing.T, text string) *Queue {
	t.Helper()
	q := New()
	if q == nil {
		t.Fatal("New = nil")
	}
	for _, e := range strings.Fields(text) {
		key := strings.TrimRight(e, "0123456789")
		at, _ := strconv.Atoi(e[len(key):])
		sets(t, q, key, at)
	}
	return q
}

// sets checks a Set that is right.
func sets(t *testing.T, q *Queue, key string, at int) {
	t.Helper()
	if err := q.Set(key, at); err != api.OK {
		t.Errorf("Set(%q, %d) = %d", key, at, err)
	}
	if got, ok := q.At(key); got != at || !ok {
		t.Errorf("At(%q) = %d, %t, want %d", key, got, ok, at)
	}
}

// show is a queue as text, in its order, as in "b3 a5 c5".
func show(q *Queue) string {
	var l []string
	for _, key := range q.Keys() {
		at, _ := q.At(key)
		l = append(l, key+strconv.Itoa(at))
	}
	return strings.Join(l, " ")
}

// stands checks the whole queue, as in "b3 a5 c5", and its first deadline.
func stands(t *testing.T, q *Queue, want string) {
	t.Helper()
	if got := show(q); got != want {
		t.Errorf("there is %q, want %q", got, want)
	}
	keys := q.Keys()
	at, ok := q.Next()
	if len(keys) == 0 {
		if at != 0 || ok {
			t.Errorf("Next of an empty queue = %d, %t", at, ok)
		}
		return
	}
	if first, _ := q.At(keys[0]); at != first || !ok {
		t.Errorf("Next = %d, %t, want %d", at, ok, first)
	}
}

// lacks checks a key that is not there, and that to drop it changes nothing.
func lacks(t *testing.T, q *Queue, key string) {
	t.Helper()
	before := show(q)
	if at, ok := q.At(key); at != 0 || ok {
		t.Errorf("At(%q) = %d, %t", key, at, ok)
	}
	if q.Drop(key) {
		t.Errorf("Drop(%q) = true", key)
	}
	stands(t, q, before)
}

// drops checks a Drop of a key that is there.
func drops(t *testing.T, q *Queue, key string) {
	t.Helper()
	if !q.Drop(key) {
		t.Errorf("Drop(%q) = false", key)
	}
	lacks(t, q, key)
}

// due checks what is due, as in "b a", and that it has gone.
func due(t *testing.T, q *Queue, now int, want string) {
	t.Helper()
	keys := strings.Fields(want)
	if got := q.Due(now); !slices.Equal(got, keys) {
		t.Errorf("Due(%d) = %q, want %q", now, got, keys)
	}
	for _, key := range keys {
		lacks(t, q, key)
	}
	if at, ok := q.Next(); ok && at <= now {
		t.Errorf("%d stayed behind %d", at, now)
	}
}

// P11.1, P11.2: the example of the chapter
func TestExample(t *testing.T) {
	q := queue(t, "a5 b3 c5")
	if got := q.Due(4); !slices.Equal(got, []string{"b"}) {
		t.Errorf("due are %q", got)
	}
	if got := q.Keys(); !slices.Equal(got, []string{"a", "c"}) {
		t.Errorf("there are %q", got)
	}
}

// P11.1, P11.2: in which order keys stand, whatever the order in which they are set
func TestOrder(t *testing.T) {
	for _, f := range [][2]string{
		{"", ""}, {"a1", "a1"}, {"a0", "a0"},
		{"a1 b2", "a1 b2"}, {"b1 a2", "b1 a2"}, {"a2 b1", "b1 a2"}, {"b2 a1", "a1 b2"},
		{"a1 b2 c3", "a1 b2 c3"}, {"c3 b2 a1", "a1 b2 c3"}, {"b2 c3 a1", "a1 b2 c3"}, {"c3 a1 b2", "a1 b2 c3"}, {"a1 c3 b2", "a1 b2 c3"}, {"b2 a1 c3", "a1 b2 c3"},
		// Several with one deadline
		{"a5 b5", "a5 b5"}, {"b5 a5", "b5 a5"}, {"c5 a5 b5", "c5 a5 b5"}, {"c0 a0 b0", "c0 a0 b0"},
		{"a5 x9 b5 y1 c5", "y1 a5 b5 c5 x9"}, {"z9 a5 y1 c5 x9 b5 w1", "y1 w1 a5 c5 b5 z9 x9"},
		{"a5 b4 c5 d6 e4 f5 g6", "b4 e4 a5 c5 f5 d6 g6"},
		// Deadlines go by what they are, not by their digits.
		{"a9 b10 c100 d11", "a9 b10 d11 c100"},
		{"a1099511627776 b0 c1099511627775 d1099511627776", "b0 c1099511627775 a1099511627776 d1099511627776"},
	} {
		stands(t, queue(t, f[0]), f[1])
	}
}

// P11.1: deadlines at their edges, and those that can't be, be the key there or not
func TestSetEdges(t *testing.T) {
	for _, from := range []string{"", "a5", "b5", "a5 b5", "b5 a5", "b3 a5 c5 d8", "a0", "b0 a0 c0", "a1099511627776", "b1099511627776"} {
		for _, key := range []string{"a", "z", ""} {
			q := queue(t, from)
			before := show(q)
			for _, at := range []int{-1, api.MaxTime + 1, -2, -api.MaxTime, 2 * api.MaxTime, math.MinInt, math.MaxInt} {
				if err := q.Set(key, at); err != api.ErrArg {
					t.Errorf("Set(%q, %d) = %d", key, at, err)
				}
				stands(t, q, before)
			}
			for _, at := range []int{0, api.MaxTime, 1, api.MaxTime - 1} {
				sets(t, q, key, at)
			}
		}
	}
	// Nothing was set where there was an error: a stands ahead of b still.
	q := queue(t, "a5 b5")
	q.Set("a", -1)
	q.Set("a", api.MaxTime+1)
	sets(t, q, "c", 5)
	stands(t, q, "a5 b5 c5")
}

// P11.1: a key that is set again was set last
func TestSetAgain(t *testing.T) {
	for _, f := range []struct {
		from string
		at   int
		want string
	}{
		// Alone
		{"x5", 5, "x5"}, {"x5", 4, "x4"}, {"x5", 6, "x6"}, {"x5", 0, "x0"},
		// With the same deadline, from the first, a middle and the last place
		{"x5 a5 b5", 5, "a5 b5 x5"}, {"a5 x5 b5", 5, "a5 b5 x5"}, {"a5 b5 x5", 5, "a5 b5 x5"}, {"a4 x5 b5 c6", 5, "a4 b5 x5 c6"}, {"a4 x5 c6", 5, "a4 x5 c6"},
		// With an earlier one
		{"a3 b3 c5 x5 d5", 3, "a3 b3 x3 c5 d5"}, {"x5 a3 b3", 3, "a3 b3 x3"}, {"a3 b5 x7", 4, "a3 x4 b5"}, {"a3 x5 b5", 2, "x2 a3 b5"}, {"x9 a5 b5", 5, "a5 b5 x5"},
		// With a later one
		{"x3 a3 b5 c5", 5, "a3 b5 c5 x5"}, {"x3 a5 b5 c7", 5, "a5 b5 x5 c7"}, {"a3 x3 b5", 4, "a3 x4 b5"}, {"a3 x3 b5", 6, "a3 b5 x6"}, {"x3 a5", 1 << 40, "a5 x1099511627776"},
	} {
		q := queue(t, f.from)
		sets(t, q, "x", f.at)
		stands(t, q, f.want)
	}
	// Again and again, and back
	q := queue(t, "a5 b5 c5")
	for range 3 {
		sets(t, q, "a", 5)
		stands(t, q, "b5 c5 a5")
		sets(t, q, "b", 9)
		sets(t, q, "b", 5)
		stands(t, q, "c5 a5 b5")
		sets(t, q, "c", 1)
		sets(t, q, "c", 5)
		stands(t, q, "a5 b5 c5")
	}
}

// P11.1: Drop
func TestDrop(t *testing.T) {
	for _, f := range []struct{ from, key, want string }{
		// The only one, the first, the last, one in the middle
		{"a5", "a", ""}, {"a0", "a", ""}, {"a1 b2 c3", "a", "b2 c3"}, {"a1 b2 c3", "c", "a1 b2"}, {"a1 b2 c3", "b", "a1 c3"},
		// of one deadline
		{"a5 b5 c5", "a", "b5 c5"}, {"a5 b5 c5", "b", "a5 c5"}, {"a5 b5 c5", "c", "a5 b5"},
		{"x5 y7 a5 b5 c5 z1", "a", "z1 x5 b5 c5 y7"}, {"x5 y7 a5 b5 c5 z1", "c", "z1 x5 a5 b5 y7"}, {"x5 y7 a5 b5 c5 z1", "x", "z1 a5 b5 c5 y7"},
		{"b5 a5 b5", "b", "a5"}, {"b5 a5 b3", "b", "a5"}, {"b5 a5 b7", "b", "a5"},
	} {
		q := queue(t, f.from)
		lacks(t, q, "n")
		lacks(t, q, "")
		drops(t, q, f.key)
		stands(t, q, f.want)
		lacks(t, q, f.key)
		// Behind a Drop, a key is set as one that never was there.
		sets(t, q, f.key, 5)
		keys := q.Keys()
		for _, key := range keys[slices.Index(keys, f.key)+1:] {
			if at, ok := q.At(key); at <= 5 || !ok {
				t.Errorf("%q stands ahead of %q: %q", f.key, key, show(q))
			}
		}
		drops(t, q, f.key)
		stands(t, q, f.want)
	}
	lacks(t, New(), "a")
	lacks(t, New(), "")
}

// P11.2: what is due, and that it goes
func TestDue(t *testing.T) {
	const all = "e0 b3 d3 g3 a7 f7 c9"
	for _, f := range []struct {
		now        int
		told, stay string
	}{
		{math.MinInt, "", all}, {-1, "", all}, {-api.MaxTime, "", all},
		{0, "e", "b3 d3 g3 a7 f7 c9"}, {1, "e", "b3 d3 g3 a7 f7 c9"}, {2, "e", "b3 d3 g3 a7 f7 c9"},
		{3, "e b d g", "a7 f7 c9"}, {4, "e b d g", "a7 f7 c9"}, {6, "e b d g", "a7 f7 c9"},
		{7, "e b d g a f", "c9"}, {8, "e b d g a f", "c9"},
		{9, "e b d g a f c", ""}, {10, "e b d g a f c", ""}, {api.MaxTime, "e b d g a f c", ""}, {api.MaxTime + 1, "e b d g a f c", ""}, {math.MaxInt, "e b d g a f c", ""},
	} {
		q := queue(t, "a7 b3 c9 d3 e0 f7 g3")
		stands(t, q, all)
		due(t, q, f.now, f.told)
		stands(t, q, f.stay)
		// Once it is due, it goes; a second time nothing does.
		for _, now := range []int{f.now, min(f.now, 0), -1} {
			due(t, q, now, "")
			stands(t, q, f.stay)
		}
	}
	q := New()
	for _, now := range []int{0, -1, 1, api.MaxTime, math.MinInt, math.MaxInt} {
		due(t, q, now, "")
		stands(t, q, "")
	}
}

// P11.2: one less than a deadline, just that, and one more, of deadlines at the edges
func TestDueEdges(t *testing.T) {
	for _, at := range []int{0, 1, 5, 1 << 31, 1 << 32, api.MaxTime - 1, api.MaxTime} {
		for _, d := range []int{-1, 0, 1} {
			q := New()
			sets(t, q, "b", at)
			sets(t, q, "a", at)
			if d < 0 {
				due(t, q, at+d, "")
			}
			due(t, q, max(at+d, at), "b a")
			stands(t, q, "")
		}
	}
}

// P11.1, P11.2: steps in turn: a key that was due, or dropped, can be set again, ahead of now too
func TestSteps(t *testing.T) {
	q := queue(t, "a5 b3 c5 d7")
	due(t, q, 5, "b a c")
	stands(t, q, "d7")
	sets(t, q, "c", 4)
	sets(t, q, "a", 7)
	sets(t, q, "d", 7)
	stands(t, q, "c4 a7 d7")
	due(t, q, 5, "c")
	drops(t, q, "a")
	due(t, q, 7, "d")
	stands(t, q, "")
	sets(t, q, "a", 0)
	sets(t, q, "", 0)
	stands(t, q, "a0 0")
	drops(t, q, "a")
	stands(t, q, "0")
	if got := q.Due(0); len(got) != 1 || got[0] != "" {
		t.Errorf("due are %q", got)
	}
	stands(t, q, "")
}

// P11.2: the first deadline
func TestNext(t *testing.T) {
	q := queue(t, "a5 b3 c5 d3 e9")
	for _, f := range []struct {
		key  string
		next int
	}{{"b", 3}, {"a", 3}, {"d", 5}, {"e", 5}} {
		drops(t, q, f.key)
		if at, ok := q.Next(); at != f.next || !ok {
			t.Errorf("Next behind %q = %d, %t, want %d", f.key, at, ok, f.next)
		}
	}
	drops(t, q, "c")
	for _, e := range []*Queue{q, New()} {
		if at, ok := e.Next(); at != 0 || ok {
			t.Errorf("Next of an empty queue = %d, %t", at, ok)
		}
	}
	// A deadline of 0 is one.
	sets(t, q, "a", 0)
	if at, ok := q.Next(); at != 0 || !ok {
		t.Errorf("Next = %d, %t, want 0", at, ok)
	}
	if at, ok := q.At("a"); at != 0 || !ok {
		t.Errorf("At = %d, %t, want 0", at, ok)
	}
	sets(t, q, "a", 7)
	if at, ok := q.Next(); at != 7 || !ok {
		t.Errorf("Next = %d, %t, want 7", at, ok)
	}
}

// P11.1, P11.2: keys are any bytes; no two are taken as one
func TestKeys(t *testing.T) {
	keys := []string{"", "\x00", "\x00\x00", "a\x00", "a", "A", " a", "a ", "\xff", "\xff\xfe", "\x80", "\xc3\xa9", "e\xcc\x81", "a\nb", "'", "\"", "1", "01", strings.Repeat("k", 5000), strings.Repeat("k", 5001)}
	q := New()
	for i, key := range keys {
		lacks(t, q, key)
		sets(t, q, key, i/3)
	}
	if got := q.Keys(); !slices.Equal(got, keys) {
		t.Errorf("there are %q", got)
	}
	for i, key := range keys {
		if at, ok := q.At(key); at != i/3 || !ok {
			t.Errorf("At(%q) = %d, %t, want %d", key, at, ok, i/3)
		}
	}
	for _, key := range keys[:3] {
		drops(t, q, key)
	}
	if got := q.Due(3); !slices.Equal(got, keys[3:12]) {
		t.Errorf("due are %q", got)
	}
	if got := q.Keys(); !slices.Equal(got, keys[12:]) {
		t.Errorf("there are %q", got)
	}
}

// P11.2: a copy stands there, and goes its own way
func TestCopy(t *testing.T) {
	const from = "b3 d3 a5 c5 e9"
	for _, change := range []func(q *Queue){
		func(q *Queue) { q.Set("a", 5) },
		func(q *Queue) { q.Set("b", 3) },
		func(q *Queue) { q.Set("e", 0) },
		func(q *Queue) { q.Set("b", api.MaxTime) },
		func(q *Queue) { q.Set("z", 4) },
		func(q *Queue) { q.Set("", 9) },
		func(q *Queue) { q.Drop("a") },
		func(q *Queue) { q.Drop("b") },
		func(q *Queue) { q.Drop("e") },
		func(q *Queue) { q.Due(3) },
		func(q *Queue) { q.Due(5) },
		func(q *Queue) { q.Due(9) },
	} {
		q := queue(t, "a5 b3 c5 d3 e9")
		stands(t, q, from)
		c := q.Copy()
		if c == q {
			t.Fatal("a copy is the queue itself")
		}
		stands(t, c, from)
		change(c)
		stands(t, q, from)
		left := show(c)
		if left == from {
			t.Error("nothing changed")
		}
		d := c.Copy().Copy()
		change(q)
		stands(t, q, left)
		stands(t, c, left)
		// What is set now is set later than what was set ahead of the copy.
		for _, to := range []*Queue{c, q} {
			sets(t, to, "new", 5)
			due(t, to, 4, strings.Join(ahead(to.Copy(), 4), " "))
			if keys := ahead(to.Copy(), 5); len(keys) == 0 || keys[len(keys)-1] != "new" {
				t.Errorf("there are %q", keys)
			}
		}
		stands(t, d, left)
	}
	c := New().Copy()
	stands(t, c, "")
	sets(t, c, "a", 1)
	stands(t, c, "a1")
}

// ahead is the keys whose deadlines are no later than now, as At tells them.
func ahead(q *Queue, now int) []string {
	var l []string
	for _, key := range q.Keys() {
		if at, _ := q.At(key); at <= now {
			l = append(l, key)
		}
	}
	return l
}

// P11.2: what is told goes its own way
func TestToldIsNew(t *testing.T) {
	spoil := func(l []string) {
		for i := range l[:cap(l)] {
			l[:cap(l)][i] = "spoilt"
		}
	}
	q := queue(t, "a5 b3 c5 d7 e7 f9")
	spoil(q.Keys())
	stands(t, q, "b3 a5 c5 d7 e7 f9")
	for now, want := range []string{3: "a5 c5 d7 e7 f9", 4: "a5 c5 d7 e7 f9", 5: "d7 e7 f9", 7: "f9"} {
		if want == "" {
			continue
		}
		spoil(q.Due(now))
		stands(t, q, want)
	}
	sets(t, q, "a", 9)
	stands(t, q, "f9 a9")
}

// A nil queue, and those that New did not give
func TestForeign(t *testing.T) {
	q := queue(t, "a5 b3 0")
	qCopy := *q
	for _, f := range []*Queue{nil, {}, new(Queue), &qCopy, {sets: 3}} {
		for _, key := range []string{"a", "b", "z", ""} {
			for _, at := range []int{0, 5, api.MaxTime, -1, api.MaxTime + 1, math.MaxInt, math.MinInt} {
				if err := f.Set(key, at); err != api.ErrNil {
					t.Errorf("Set(%q, %d) = %d", key, at, err)
				}
			}
			if f.Drop(key) {
				t.Errorf("Drop(%q) = true", key)
			}
			if at, ok := f.At(key); at != 0 || ok {
				t.Errorf("At(%q) = %d, %t", key, at, ok)
			}
		}
		for _, now := range []int{0, 3, 5, -1, api.MaxTime, math.MaxInt, math.MinInt} {
			if l := f.Due(now); len(l) != 0 {
				t.Errorf("Due(%d) = %q", now, l)
			}
		}
		if at, ok := f.Next(); at != 0 || ok {
			t.Errorf("Next = %d, %t", at, ok)
		}
		if l := f.Keys(); len(l) != 0 {
			t.Errorf("Keys = %q", l)
		}
		if c := f.Copy(); c != nil {
			t.Errorf("Copy = %v", c)
		}
	}
	stands(t, q, "0 b3 a5")
}
