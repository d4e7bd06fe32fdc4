package line

import (
	"math"
	"slices"
	"strconv"
	"strings"
	"testing"

	"pontoon/api"
)

// line is a line of what a text tells, as in "1-5 2-3": who joins, and till when.
func line(t *testing.T, most int, text string) *Line {
	t.Helper()
	l, err := New(most)
	if l == nil || err != api.OK {
		t.Fatalf("New(%d) = %v, %d", most, l, err)
	}
	for _, w := range strings.Fields(text) {
		id, until, _ := strings.Cut(w, "-")
		joins(t, l, number(t, id), number(t, until))
	}
	return l
}

// number is a text's number.
func number(t *testing.T, text string) int {
	t.Helper()
	n, err := strconv.Atoi(text)
	if err != nil {
		t.Fatal(err)
	}
	return n
}

// ids is the numbers of a text.
func ids(t *testing.T, text string) []int {
	t.Helper()
	var l []int
	for _, word := range strings.Fields(text) {
		l = append(l, number(t, word))
	}
	return l
}

// show is numbers as text.
func show(l []int) string {
	var words []string
	for _, n := range l {
		words = append(words, strconv.Itoa(n))
	}
	return strings.Join(words, " ")
}

// full is all that is kept of a line: who waits, in order, and till when, as in "1-5 2-3".
func full(l *Line) string {
	var words []string
	for _, w := range l.left {
		words = append(words, strconv.Itoa(w.id)+"-"+strconv.Itoa(w.until))
	}
	return strings.Join(words, " ")
}

// stands checks who waits, as in "1 2 3", and everyone's place.
func stands(t *testing.T, l *Line, want string) {
	t.Helper()
	all := l.All()
	if got := show(all); got != want {
		t.Errorf("there are %q, want %q", got, want)
	}
	for i, id := range all {
		if got := l.Place(id); got != i {
			t.Errorf("Place(%d) = %d, want %d, of %q", id, got, i, want)
		}
	}
}

// joins checks a Join that is right: who joins is the last one.
func joins(t *testing.T, l *Line, id, until int) {
	t.Helper()
	want := append(l.All(), id)
	if err := l.Join(id, until); err != api.OK {
		t.Errorf("Join(%d, %d) = %d", id, until, err)
	}
	stands(t, l, show(want))
}

// refuses checks a Join that is wrong, and that it changes nothing.
func refuses(t *testing.T, l *Line, id, until int, want api.Errno) {
	t.Helper()
	before := full(l)
	if err := l.Join(id, until); err != want {
		t.Errorf("Join(%d, %d) = %d, want %d", id, until, err, want)
	}
	if got := full(l); got != before {
		t.Errorf("Join(%d, %d): there is %q, was %q", id, until, got, before)
	}
}

// lacks checks somebody who is not there, and that to leave changes nothing.
func lacks(t *testing.T, l *Line, id int) {
	t.Helper()
	before := full(l)
	if got := l.Place(id); got != -1 {
		t.Errorf("Place(%d) = %d", id, got)
	}
	if l.Leave(id) {
		t.Errorf("Leave(%d) = true", id)
	}
	if got := full(l); got != before {
		t.Errorf("Leave(%d): there is %q, was %q", id, got, before)
	}
}

// leaves checks a Leave of somebody who is there.
func leaves(t *testing.T, l *Line, id int) {
	t.Helper()
	if !l.Leave(id) {
		t.Errorf("Leave(%d) = false", id)
	}
	lacks(t, l, id)
}

// goes checks a First: who it is, and that who it is has gone.
func goes(t *testing.T, l *Line, want int) {
	t.Helper()
	if id, ok := l.First(); id != want || !ok {
		t.Errorf("First = %d, %t, want %d", id, ok, want)
	}
	lacks(t, l, want)
}

// empties checks a First of a line in which nobody waits.
func empties(t *testing.T, l *Line) {
	t.Helper()
	if id, ok := l.First(); id != 0 || ok {
		t.Errorf("First = %d, %t, of an empty line", id, ok)
	}
	stands(t, l, "")
}

// late checks who is late, as in "2 1", and that they have gone.
func late(t *testing.T, l *Line, now int, want string) {
	t.Helper()
	if got := show(l.Late(now)); got != want {
		t.Errorf("Late(%d) = %q, want %q", now, got, want)
	}
	for _, id := range ids(t, want) {
		lacks(t, l, id)
	}
	before := full(l)
	if again := l.Late(now); len(again) != 0 {
		t.Errorf("Late(%d) a second time = %v", now, again)
	}
	if got := full(l); got != before {
		t.Errorf("Late(%d) a second time: there is %q, was %q", now, got, before)
	}
}

// P16.2 to P16.4: the example of the chapter
func TestExample(t *testing.T) {
	l := line(t, 10, "1-5 2-3 3-9")
	if got := l.Late(4); !slices.Equal(got, []int{2}) {
		t.Errorf("late are %v", got)
	}
	if id, ok := l.First(); id != 1 || !ok {
		t.Errorf("the first one is %d, %t", id, ok)
	}
	stands(t, l, "3")
}

// P16.1: how many may wait
func TestNew(t *testing.T) {
	for _, most := range []int{1, 2, 3, 9999, 10000} {
		empties(t, line(t, most, ""))
	}
	for _, most := range []int{0, -1, -2, 10001, 10002, 20000, -10000, 1 << 32, 1<<32 + 1, math.MinInt, math.MaxInt} {
		if l, err := New(most); l != nil || err != api.ErrArg {
			t.Errorf("New(%d) = %v, %d", most, l, err)
		}
	}
}

// P16.1: a line is its own
func TestNewIsNew(t *testing.T) {
	a, b := line(t, 3, ""), line(t, 3, "")
	joins(t, a, 1, 5)
	stands(t, b, "")
	joins(t, b, 1, 6)
	joins(t, b, 2, 7)
	stands(t, a, "1")
}

// P16.2: who joins is the last one, whoever it is
func TestJoin(t *testing.T) {
	l := line(t, 20, "")
	for _, id := range []int{7, 3, 5, -1, 0, math.MinInt, math.MaxInt, 1 << 32, -1 << 32, 10001, 8, 4} {
		joins(t, l, id, 5)
	}
	stands(t, l, "7 3 5 -1 0 -9223372036854775808 9223372036854775807 4294967296 -4294967296 10001 8 4")
}

// P16.2: deadlines at their edges, and those that can't be
func TestJoinEdges(t *testing.T) {
	for _, from := range []string{"", "1-5", "1-5 2-0 3-1099511627776"} {
		for _, until := range []int{-1, -2, api.MaxTime + 1, api.MaxTime + 2, -api.MaxTime, 2 * api.MaxTime, math.MinInt, math.MaxInt} {
			l := line(t, 9, from)
			refuses(t, l, 7, until, api.ErrArg)
			// It isn't there, so that it can join.
			joins(t, l, 7, 5)
		}
		for _, until := range []int{0, 1, 5, api.MaxTime - 1, api.MaxTime} {
			l := line(t, 9, from)
			joins(t, l, 7, until)
			if l.Late(until - 1); l.Place(7) < 0 {
				t.Errorf("at %d it went, which waits till %d", until-1, until)
			}
			if l.Late(until); l.Place(7) >= 0 {
				t.Errorf("at %d it is there, which waits till then", until)
			}
		}
	}
}

// P16.2: nobody is in a line twice, wherever it stands, and its deadline stays
func TestJoinTwice(t *testing.T) {
	for _, id := range []int{1, 2, 3} {
		for _, until := range []int{0, 4, 5, 6, api.MaxTime} {
			l := line(t, 9, "1-5 2-5 3-5")
			refuses(t, l, id, until, api.ErrTwice)
			late(t, l, 4, "")
			late(t, l, 5, "1 2 3")
			// Who left can join again.
			joins(t, l, id, until)
		}
	}
	l := line(t, 9, "1-5 2-6 3-7")
	goes(t, l, 1)
	joins(t, l, 1, 8)
	refuses(t, l, 1, 8, api.ErrTwice)
	leaves(t, l, 2)
	joins(t, l, 2, 9)
	stands(t, l, "3 1 2")
	// With the new deadlines, not the old ones
	late(t, l, 7, "3")
	late(t, l, 8, "1")
	late(t, l, 9, "2")
}

// P16.2: how many there is room for
func TestJoinFull(t *testing.T) {
	for _, most := range []int{1, 2, 3, 10, 9999, 10000} {
		l := line(t, most, "")
		for id := range most {
			if err := l.Join(id, 5+id%3); err != api.OK {
				t.Fatalf("Join(%d) of %d = %d", id, most, err)
			}
		}
		before := l.All()
		for _, id := range []int{most, -1, math.MaxInt} {
			if err := l.Join(id, 5); err != api.ErrFull {
				t.Errorf("Join(%d) of %d = %d", id, most, err)
			}
		}
		if got := l.All(); len(got) != most || !slices.Equal(got, before) {
			t.Errorf("there are %d, want %d", len(got), most)
		}
		// Who goes makes room for one, in each of the three ways.
		goes(t, l, 0)
		joins(t, l, -1, 5)
		refuses(t, l, -2, 5, api.ErrFull)
		leaves(t, l, -1)
		joins(t, l, -2, 5)
		refuses(t, l, -3, 5, api.ErrFull)
		n := len(l.Late(5))
		for id := range n {
			if err := l.Join(-3-id, 9); err != api.OK {
				t.Fatalf("Join(%d) of %d = %d", -3-id, n, err)
			}
		}
		refuses(t, l, math.MinInt, 9, api.ErrFull)
	}
}

// P16.2: which error comes ahead of others
func TestJoinErrors(t *testing.T) {
	some, all := line(t, 3, "1-5 2-6"), line(t, 2, "1-5 2-6")
	for _, until := range []int{-1, api.MaxTime + 1, math.MinInt, math.MaxInt} {
		// A deadline that can't be comes ahead of who is there, and of a line that is full.
		for _, l := range []*Line{some, all} {
			refuses(t, l, 1, until, api.ErrArg)
			refuses(t, l, 2, until, api.ErrArg)
			refuses(t, l, 3, until, api.ErrArg)
		}
	}
	for _, until := range []int{0, 5, api.MaxTime} {
		// Who is there comes ahead of a line that is full.
		refuses(t, some, 1, until, api.ErrTwice)
		refuses(t, all, 1, until, api.ErrTwice)
		refuses(t, all, 2, until, api.ErrTwice)
		refuses(t, all, 3, until, api.ErrFull)
		refuses(t, all, 0, until, api.ErrFull)
	}
	joins(t, some, 3, 5)
}

// P16.3: who came first goes first, whatever the deadlines and the numbers are
func TestFirst(t *testing.T) {
	for _, f := range [][2]string{
		{"1-5", "1"}, {"1-5 2-5", "1 2"}, {"2-5 1-5", "2 1"}, {"1-9 2-3", "1 2"}, {"1-3 2-9", "1 2"}, {"2-9 1-3", "2 1"},
		{"3-9 1-0 2-5", "3 1 2"}, {"0-0", "0"}, {"-1-5 0-5 1-5", "-1 0 1"}, {"5-1 4-2 3-3 2-4 1-5", "5 4 3 2 1"},
	} {
		l, _ := New(9)
		for _, w := range strings.Fields(f[0]) {
			i := strings.LastIndex(w, "-")
			joins(t, l, number(t, w[:i]), number(t, w[i+1:]))
		}
		left := ids(t, f[1])
		for i, id := range left {
			goes(t, l, id)
			stands(t, l, show(left[i+1:]))
		}
		empties(t, l)
		empties(t, l)
		// A line that was empty goes on.
		joins(t, l, 7, 5)
		joins(t, l, 6, 4)
		goes(t, l, 7)
		goes(t, l, 6)
		empties(t, l)
	}
}

// P16.3: who leaves, from each place
func TestLeave(t *testing.T) {
	for _, f := range []struct {
		from string
		id   int
		want string
	}{
		{"1-5", 1, ""}, {"0-0", 0, ""},
		{"1-5 2-6", 1, "2"}, {"1-5 2-6", 2, "1"},
		{"1-5 2-6 3-7", 1, "2 3"}, {"1-5 2-6 3-7", 2, "1 3"}, {"1-5 2-6 3-7", 3, "1 2"},
		{"5-1 4-1 3-1 2-1 1-1", 4, "5 3 2 1"}, {"5-1 4-1 3-1 2-1 1-1", 2, "5 4 3 1"}, {"5-1 4-1 3-1 2-1 1-1", 3, "5 4 2 1"},
	} {
		l := line(t, 6, f.from)
		lacks(t, l, 9)
		lacks(t, l, -1)
		leaves(t, l, f.id)
		stands(t, l, f.want)
		joins(t, l, 9, 5)
		joins(t, l.Copy(), f.id, 5)
		stands(t, l, strings.TrimSpace(f.want+" 9"))
		for _, id := range ids(t, f.want) {
			goes(t, l, id)
		}
		goes(t, l, 9)
		lacks(t, l, 9)
	}
	lacks(t, line(t, 1, ""), 0)
	lacks(t, line(t, 1, ""), 1)
}

// P16.4: who is late, in the line's order, not by deadlines
func TestLate(t *testing.T) {
	const from = "4-7 1-3 8-9 2-3 6-0 3-7 7-3"
	for _, f := range []struct {
		now        int
		told, stay string
	}{
		{math.MinInt, "", "4 1 8 2 6 3 7"}, {-1, "", "4 1 8 2 6 3 7"}, {-api.MaxTime, "", "4 1 8 2 6 3 7"},
		{0, "6", "4 1 8 2 3 7"}, {1, "6", "4 1 8 2 3 7"}, {2, "6", "4 1 8 2 3 7"},
		{3, "1 2 6 7", "4 8 3"}, {4, "1 2 6 7", "4 8 3"}, {6, "1 2 6 7", "4 8 3"},
		{7, "4 1 2 6 3 7", "8"}, {8, "4 1 2 6 3 7", "8"},
		{9, "4 1 8 2 6 3 7", ""}, {10, "4 1 8 2 6 3 7", ""}, {api.MaxTime, "4 1 8 2 6 3 7", ""}, {api.MaxTime + 1, "4 1 8 2 6 3 7", ""}, {math.MaxInt, "4 1 8 2 6 3 7", ""},
	} {
		l := line(t, 7, from)
		late(t, l, f.now, f.told)
		stands(t, l, f.stay)
		for _, now := range []int{min(f.now, 0), -1, math.MinInt} {
			late(t, l, now, "")
		}
		for _, id := range ids(t, f.told) {
			joins(t, l, id, 5)
		}
		stands(t, l, strings.TrimSpace(f.stay+" "+f.told))
	}
	l := line(t, 1, "")
	for _, now := range []int{0, -1, 1, api.MaxTime, math.MinInt, math.MaxInt} {
		late(t, l, now, "")
		stands(t, l, "")
	}
}

// P16.4: one less than a deadline, just that, and one more, of deadlines at the edges
func TestLateEdges(t *testing.T) {
	for _, until := range []int{0, 1, 5, 1 << 31, 1 << 32, api.MaxTime - 1, api.MaxTime} {
		for _, d := range []int{-1, 0, 1} {
			l := line(t, 2, "")
			joins(t, l, 2, until)
			joins(t, l, 1, until)
			if d < 0 {
				late(t, l, until+d, "")
				stands(t, l, "2 1")
				continue
			}
			late(t, l, until+d, "2 1")
			stands(t, l, "")
		}
	}
}

// P16.2 to P16.4: steps in turn: time needn't go on, and who goes can come again
func TestSteps(t *testing.T) {
	l := line(t, 4, "1-5 2-3 3-5 4-7")
	late(t, l, 5, "1 2 3")
	joins(t, l, 3, 4)
	joins(t, l, 1, 7)
	stands(t, l, "4 3 1")
	goes(t, l, 4)
	late(t, l, 4, "3")
	joins(t, l, 4, 0)
	joins(t, l, 3, 9)
	leaves(t, l, 1)
	stands(t, l, "4 3")
	late(t, l, 0, "4")
	goes(t, l, 3)
	empties(t, l)
	late(t, l, math.MaxInt, "")
	// 0 is somebody, too.
	joins(t, l, 0, 0)
	if id, ok := l.First(); id != 0 || !ok {
		t.Errorf("First = %d, %t, want 0", id, ok)
	}
	empties(t, l)
}

// P16.5: how many stand ahead
func TestPlace(t *testing.T) {
	l := line(t, 5, "9-5 0-4 8-3 1-2 7-1")
	for i, id := range []int{9, 0, 8, 1, 7} {
		if got := l.Place(id); got != i {
			t.Errorf("Place(%d) = %d, want %d", id, got, i)
		}
	}
	for _, id := range []int{2, 3, 4, 5, 6, 10, -1, -9, math.MinInt, math.MaxInt} {
		if got := l.Place(id); got != -1 {
			t.Errorf("Place(%d) = %d", id, got)
		}
	}
	goes(t, l, 9)
	leaves(t, l, 8)
	for i, id := range []int{0, 1, 7} {
		if got := l.Place(id); got != i {
			t.Errorf("Place(%d) = %d, want %d", id, got, i)
		}
	}
	late(t, l, 2, "1 7")
	if got := l.Place(0); got != 0 {
		t.Errorf("Place = %d", got)
	}
}

// changes is what may happen to the line of copies.
func changes(t *testing.T) []func(l *Line) {
	return []func(l *Line){
		func(l *Line) { joins(t, l, 7, 8) },
		func(l *Line) { joins(t, l, 8, 0); joins(t, l, 7, 1) },
		func(l *Line) { goes(t, l, 1) },
		func(l *Line) { goes(t, l, 1); joins(t, l, 7, 8) },
		func(l *Line) { goes(t, l, 1); goes(t, l, 2); joins(t, l, 1, 0); joins(t, l, 8, 8) },
		func(l *Line) { leaves(t, l, 1) },
		func(l *Line) { leaves(t, l, 2) },
		func(l *Line) { leaves(t, l, 4) },
		func(l *Line) { leaves(t, l, 4); joins(t, l, 7, 8) },
		func(l *Line) { leaves(t, l, 3); joins(t, l, 3, 1) },
		func(l *Line) { late(t, l, 3, "2 4") },
		func(l *Line) { late(t, l, 3, "2 4"); joins(t, l, 7, 0); joins(t, l, 8, 0) },
		func(l *Line) { late(t, l, 5, "1 2 4"); joins(t, l, 4, 6) },
		func(l *Line) { late(t, l, 9, "1 2 3 4") },
		func(l *Line) { late(t, l, 9, "1 2 3 4"); joins(t, l, 4, 6); joins(t, l, 1, 6) },
	}
}

// P16.5: a copy stands there, and goes its own way
func TestCopy(t *testing.T) {
	const from = "1-5 2-3 3-9 4-3"
	for i, first := range changes(t) {
		for j, second := range changes(t) {
			l := line(t, 6, from)
			c := l.Copy()
			if c == l {
				t.Fatal("a copy is the line itself")
			}
			stands(t, c, "1 2 3 4")
			first(c)
			left := full(c)
			if got := full(l); got != from {
				t.Errorf("%d: the line became %q", i, got)
			}
			d := c.Copy().Copy()
			second(l)
			e := l.Copy()
			if got := full(c); got != left {
				t.Errorf("%d, %d: the copy became %q, was %q", i, j, got, left)
			}
			right := full(l)
			// Whoever goes on, the others stay.
			for id := 10; id < 12; id++ {
				l.Join(id, 1)
				c.Join(id+10, 2)
				e.Join(id+20, 3)
			}
			if got := full(d); got != left {
				t.Errorf("%d, %d: the copy's copy became %q, was %q", i, j, got, left)
			}
			for k, l := range []*Line{l, e} {
				if got := full(l); !strings.HasPrefix(got, right) {
					t.Errorf("%d, %d, %d: there is %q, want %q first", i, j, k, got, right)
				}
			}
		}
	}
}

// P16.5: a copy has room for as many
func TestCopyMost(t *testing.T) {
	for _, most := range []int{1, 2, 5} {
		l := line(t, most, "1-5")
		c := l.Copy()
		d := line(t, most, "").Copy()
		joins(t, d, 0, 5)
		for _, c := range []*Line{c, d, d.Copy(), l} {
			for id := 2; id <= most; id++ {
				joins(t, c, id, 5)
			}
			refuses(t, c, 9, 5, api.ErrFull)
		}
	}
}

// P16.5: a line and its copies share memory, but what one does is never seen in another: those who join, one here and one there
func TestCopyRoom(t *testing.T) {
	for n := range 40 {
		l := line(t, 100, "")
		for id := range n {
			joins(t, l, id, id)
		}
		before := show(l.All())
		lines := []*Line{l, l.Copy(), l.Copy()}
		lines = append(lines, lines[1].Copy())
		for step := range 3 {
			for i, l := range lines {
				joins(t, l, 100+10*step+i, 5)
			}
		}
		for i, l := range lines {
			stands(t, l, strings.TrimSpace(before+" "+show([]int{100 + i, 110 + i, 120 + i})))
		}
		// Who was the last one leaves, and another one comes in its place.
		c := l.Copy()
		leaves(t, l, 120)
		joins(t, l, 200, 5)
		stands(t, c, strings.TrimSpace(before+" 100 110 120"))
		stands(t, l, strings.TrimSpace(before+" 100 110 200"))
	}
}

// P16.4, P16.5: what is told is new memory, spare room too
func TestToldIsNew(t *testing.T) {
	spoil := func(l []int) {
		for i := range l[:cap(l)] {
			l[:cap(l)][i] = -7
		}
	}
	for n := range 12 {
		l := line(t, 20, "")
		for id := range n {
			joins(t, l, id, id%2)
		}
		before := full(l)
		c := l.Copy()
		a, b := l.All(), l.All()
		spoil(a)
		if show(b) != show(c.All()) {
			t.Errorf("what was told became %v", b)
		}
		if got := full(l); got != before {
			t.Errorf("there is %q, was %q", got, before)
		}
		told := l.Late(0)
		want := show(c.Late(0))
		after := full(l)
		spoil(l.All())
		if got := show(told); got != want {
			t.Errorf("late were %q, want %q", got, want)
		}
		spoil(told)
		if got := full(l); got != after {
			t.Errorf("there is %q, was %q", got, after)
		}
		if got := full(c); got != after {
			t.Errorf("in the copy there is %q, want %q", got, after)
		}
	}
}

// copyOf is a struct's copy.
func copyOf(l *Line) *Line {
	c := *l
	return &c
}

// A nil line, and those that New did not give
func TestForeign(t *testing.T) {
	l := line(t, 3, "1-5 2-3")
	for _, f := range []*Line{nil, {}, new(Line), copyOf(l), copyOf(l.Copy()), {most: 3}, {self: l, most: 3}, {most: 3, left: l.left}, {self: l, most: 3, left: l.left}} {
		for _, id := range []int{1, 2, 3, 0, -1, math.MinInt, math.MaxInt} {
			for _, until := range []int{0, 5, api.MaxTime, -1, api.MaxTime + 1, math.MinInt, math.MaxInt} {
				if err := f.Join(id, until); err != api.ErrNil {
					t.Errorf("Join(%d, %d) = %d", id, until, err)
				}
			}
			if f.Leave(id) {
				t.Errorf("Leave(%d) = true", id)
			}
			if got := f.Place(id); got != -1 {
				t.Errorf("Place(%d) = %d", id, got)
			}
		}
		if id, ok := f.First(); id != 0 || ok {
			t.Errorf("First = %d, %t", id, ok)
		}
		for _, now := range []int{0, 3, 5, -1, api.MaxTime, math.MinInt, math.MaxInt} {
			if got := f.Late(now); len(got) != 0 {
				t.Errorf("Late(%d) = %v", now, got)
			}
		}
		if got := f.All(); len(got) != 0 {
			t.Errorf("All = %v", got)
		}
		if c := f.Copy(); c != nil {
			t.Errorf("Copy = %v", c)
		}
	}
	if got := full(l); got != "1-5 2-3" {
		t.Errorf("there is %q", got)
	}
}
