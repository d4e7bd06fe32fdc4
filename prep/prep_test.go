package prep

import (
	"maps"
	"math"
	"slices"
	"strconv"
	"strings"
	"testing"
	"unsafe"

	"pontoon/api"
)

// What happens is told, with what is answered, a line each:
//
//	define 1 a x = ok     the client 1 has the statement x by the name a (or: error 9)
//	find 1 a = x          (or: no)
//	close 1 a = yes       (or: no)
//	leave 1 = 2           the client 1 had two statements
//	need 5 x = s1 new     the connection 5 must prepare the text x by the name s1 (or: s1, if it needn't)
//	has 5 = s1 s2
//	forget 5 = 2          the connection 5 had two names
//
// A name or text that is not a plain word is told as Go tells texts; it has no blanks.

// word is a text as a word.
func word(text string) string {
	plain := func(r rune) bool { return r >= 'a' && r <= 'z' || r >= 'A' && r <= 'Z' || r >= '0' && r <= '9' }
	if text == "" || text == "no" || strings.ContainsFunc(text, func(r rune) bool { return !plain(r) }) {
		return strings.ReplaceAll(strconv.Quote(text), " ", `\x20`)
	}
	return text
}

// unword is the text of a word.
func unword(t *testing.T, word string) string {
	t.Helper()
	if !strings.HasPrefix(word, `"`) {
		return word
	}
	text, err := strconv.Unquote(word)
	if err != nil {
		t.Fatal(err)
	}
	return text
}

// done is what Define answers, as text.
func done(err api.Errno) string {
	if err == api.OK {
		return "ok"
	}
	return "error " + strconv.Itoa(int(err))
}

// found is what Find answers, as text.
func found(sql string, ok bool) string {
	switch {
	case ok:
		return word(sql)
	case sql == "":
		return "no"
	}
	return "no, but " + word(sql)
}

// yes is yes, or no.
func yes(ok bool) string {
	if ok {
		return "yes"
	}
	return "no"
}

// needed is what Need answers, as text.
func needed(name string, fresh bool) string {
	if fresh {
		return name + " new"
	}
	return name
}

// step lets something happen: what is answered, as text.
func step(t *testing.T, b *Book, what string) string {
	t.Helper()
	words := append(strings.Fields(what), "", "")
	n, err := strconv.Atoi(words[1])
	if err != nil {
		t.Fatal(err)
	}
	first, second := unword(t, words[2]), unword(t, words[3])
	switch words[0] {
	case "define":
		return done(b.Define(n, first, second))
	case "find":
		return found(b.Find(n, first))
	case "close":
		return yes(b.Close(n, first))
	case "leave":
		return strconv.Itoa(b.Leave(n))
	case "need":
		return needed(b.Need(n, first))
	case "has":
		return strings.Join(b.Has(n), " ")
	case "forget":
		return strconv.Itoa(b.Forget(n))
	}
	t.Fatalf("there is no %q", what)
	return ""
}

// plays lets happen what lines tell, and checks what is answered.
func plays(t *testing.T, b *Book, lines string) {
	t.Helper()
	for line := range strings.Lines(lines) {
		what, want, is := strings.Cut(strings.TrimSpace(line), " =")
		if !is {
			continue
		}
		want = strings.TrimSpace(want)
		before := full(b)
		if got := step(t, b, what); got != want {
			t.Errorf("%s = %s, want %s", what, got, want)
		}
		sane(t, b)
		asks := strings.HasPrefix(what, "find") || strings.HasPrefix(what, "has")
		if after := full(b); (asks || strings.HasPrefix(want, "error")) && after != before {
			t.Errorf("%s: there is %q, was %q", what, after, before)
		}
	}
}

// book is a new one, with what lines tell.
func book(t *testing.T, lines string) *Book {
	t.Helper()
	b := New()
	if b == nil {
		t.Fatal("New = nil")
	}
	plays(t, b, lines)
	return b
}

// full is all that is kept of a book.
func full(b *Book) string {
	text := ""
	for _, client := range slices.Sorted(maps.Keys(b.clients)) {
		text += strconv.Itoa(client) + ":"
		for _, name := range slices.Sorted(maps.Keys(b.clients[client])) {
			text += " " + word(name) + " is " + word(b.clients[client][name].sql)
		}
		text += "; "
	}
	for _, conn := range slices.Sorted(maps.Keys(b.conns)) {
		text += "on " + strconv.Itoa(conn) + " " + strings.Join(b.Has(conn), " ") + "; "
	}
	for _, sql := range slices.Sorted(maps.Keys(b.texts)) {
		text += word(sql) + "=" + strconv.Itoa(b.texts[sql]) + " "
	}
	return text
}

// sane checks that what is kept fits together, that no more is kept than is needed, and the laws.
func sane(t *testing.T, b *Book) {
	t.Helper()
	for client, own := range b.clients {
		if len(own) == 0 {
			t.Errorf("the client %d is kept without statements", client)
		}
	}
	numbers := map[int]bool{}
	for sql, n := range b.texts {
		if n < 1 || n > len(b.texts) || numbers[n] {
			t.Errorf("%q has the number %d of %d", sql, n, len(b.texts))
		}
		numbers[n] = true
	}
	for conn, own := range b.conns {
		if len(own) == 0 {
			t.Errorf("the connection %d is kept without names", conn)
		}
		places := map[int]bool{}
		for n, place := range own {
			if !numbers[n] || place < 0 || place >= len(own) || places[place] {
				t.Errorf("the connection %d has %d at the place %d of %d", conn, n, place, len(own))
			}
			places[place] = true
		}
	}
}

// P18.2: the example of the chapter
func TestExample(t *testing.T) {
	b := New()
	for i, f := range []struct {
		conn      int
		sql, name string
		fresh     bool
	}{{1, "a", "s1", true}, {2, "a", "s1", true}, {1, "a", "s1", false}, {1, "b", "s2", true}} {
		if name, fresh := b.Need(f.conn, f.sql); name != f.name || fresh != f.fresh {
			t.Errorf("%d: Need(%d, %q) = %q, %t", i, f.conn, f.sql, name, fresh)
		}
	}
}

// P18.1: what clients have, each for itself, and what they have not
func TestDefine(t *testing.T) {
	book(t, `
		find 1 a = no
		find 1 "" = no
		define 1 a x = ok
		find 1 a = x
		find 1 "" = no
		find 1 A = no
		find 1 ab = no
		find 1 x = no
		find 2 a = no
		find -1 a = no
		find 0 a = no
		find 4294967297 a = no
		define 2 a y = ok
		define 0 a z = ok
		define -1 a "select\x20*\x20from\x20t" = ok
		define 4294967297 a u = ok
		define 9223372036854775807 a v = ok
		define -9223372036854775808 a w = ok
		find 1 a = x
		find 2 a = y
		find 0 a = z
		find -1 a = "select\x20*\x20from\x20t"
		find 4294967297 a = u
		find 9223372036854775807 a = v
		find -9223372036854775808 a = w
		define 1 A "\x00" = ok
		define 1 "a\x00" "\xff" = ok
		define 1 "a\x20" a = ok
		define 1 "\xff" "\xfe" = ok
		define 1 "\xfe" no = ok
		define 1 b x = ok
		define 1 c "" = ok
		define 1 d "\x20X\n" = ok
		find 1 a = x
		find 1 A = "\x00"
		find 1 "a\x00" = "\xff"
		find 1 "\xff" = "\xfe"
		find 1 "\xfe" = "no"
		find 1 b = x
		find 1 c = ""
		find 1 d = "\x20X\n"
		leave 1 = 9`)
}

// P18.1: a name that the client has can't be given once more, whatever the text; others may have it
func TestDefineTwice(t *testing.T) {
	book(t, `
		define 1 a x = ok
		define 1 a x = error 9
		define 1 a y = error 9
		define 1 a "" = error 9
		find 1 a = x
		define 1 b x = ok
		define 1 a z = error 9
		define 1 b z = error 9
		define 2 a y = ok
		define 2 a x = error 9
		find 1 a = x
		find 2 a = y
		define 1 c "" = ok
		define 1 c x = error 9
		find 1 c = ""
		define 1 "\x00" x = ok
		define 1 "\x00" y = error 9
		find 1 "\x00" = x
		leave 1 = 4
		define 1 a y = ok
		find 1 a = y
		define 2 a x = error 9
		close 2 a = yes
		define 2 a x = ok
		define 2 a x = error 9
		find 2 a = x`)
}

// P18.1: an empty name takes the place of the one that there was
func TestDefineEmpty(t *testing.T) {
	book(t, `
		define 1 "" x = ok
		find 1 "" = x
		define 1 "" y = ok
		find 1 "" = y
		define 1 "" y = ok
		define 1 a x = ok
		define 1 "" z = ok
		find 1 "" = z
		find 1 a = x
		find 2 "" = no
		define 2 "" u = ok
		find 1 "" = z
		define 1 "" "" = ok
		find 1 "" = ""
		define 1 "" v = ok
		leave 1 = 2
		find 1 "" = no
		find 2 "" = u
		close 2 "" = yes
		find 2 "" = no
		define 2 "" w = ok
		find 2 "" = w`)
}

// P18.1: a text's greatest length, and more; it is told first that it is too long, and what there was stays
func TestDefineBig(t *testing.T) {
	b := New()
	for i, n := range []int{0, 1, 1999, 2000} {
		for _, part := range []string{"x", "\x00"} {
			name, sql := part+strconv.Itoa(n), strings.Repeat(part, n)
			if err := b.Define(1, name, sql); err != api.OK {
				t.Errorf("Define of %d bytes = %d", n, err)
			}
			if got, ok := b.Find(1, name); got != sql || !ok {
				t.Errorf("%d bytes: Find = %q, %t", n, got, ok)
			}
		}
		sane(t, b)
		if err := b.Define(2, "", strings.Repeat("x", n)); err != api.OK || len(b.clients[2][""].sql) != n {
			t.Errorf("%d: Define of %d bytes = %d", i, n, err)
		}
	}
	before := full(b)
	// Bytes count, not letters.
	for _, sql := range []string{strings.Repeat("x", 2001), strings.Repeat("x", 2002), strings.Repeat("x", 4000), strings.Repeat("x", 1<<16), strings.Repeat("x", 1<<20), strings.Repeat(" ", 2001), strings.Repeat("é", 1001), strings.Repeat("\x00", 2001)} {
		for _, name := range []string{"new", "x1", ""} {
			for _, client := range []int{1, 2, 3, -1} {
				if err := b.Define(client, name, sql); err != api.ErrBig {
					t.Errorf("Define(%d, %q) of %d bytes = %d", client, name, len(sql), err)
				}
			}
		}
	}
	if got := full(b); got != before {
		t.Errorf("there is %q, was %q", got, before)
	}
	if err := b.Define(3, strings.Repeat("n", 5000), strings.Repeat("é", 1000)); err != api.OK {
		t.Errorf("Define by a long name = %d", err)
	}
	plays(t, b, "find 3 n = no\nleave 3 = 1")
}

// P18.1: what is closed is no more; had it one?
func TestClose(t *testing.T) {
	book(t, `
		close 1 a = no
		close 1 "" = no
		define 1 a x = ok
		define 1 b y = ok
		define 1 "" z = ok
		define 2 a u = ok
		close 1 c = no
		close 1 A = no
		close 1 x = no
		close 2 b = no
		close 2 "" = no
		close 3 a = no
		close -1 a = no
		close 4294967297 a = no
		close 1 a = yes
		find 1 a = no
		find 1 b = y
		find 1 "" = z
		find 2 a = u
		close 1 a = no
		close 1 "" = yes
		find 1 "" = no
		find 1 b = y
		close 1 "" = no
		define 1 "" v = ok
		define 1 a w = ok
		find 1 a = w
		close 1 b = yes
		close 1 a = yes
		leave 1 = 1
		close 1 "" = no
		close 2 a = yes
		leave 2 = 0
		define -9223372036854775808 a x = ok
		close 9223372036854775807 a = no
		close -9223372036854775808 a = yes
		close -9223372036854775808 a = no`)
}

// P18.1: who leaves has none any more: how many had it?
func TestLeave(t *testing.T) {
	book(t, `
		leave 1 = 0
		leave -1 = 0
		define 1 a x = ok
		leave 2 = 0
		leave -1 = 0
		leave 0 = 0
		leave 4294967297 = 0
		leave 1 = 1
		leave 1 = 0
		find 1 a = no
		close 1 a = no
		define 1 a x = ok
		define 1 b x = ok
		define 1 "" x = ok
		define 1 "" y = ok
		define 1 a y = error 9
		define 2 a z = ok
		leave 1 = 3
		find 1 a = no
		find 1 b = no
		find 1 "" = no
		find 2 a = z
		define 1 a y = ok
		define 1 b y = ok
		close 1 a = yes
		leave 1 = 1
		define 1 a y = ok
		close 1 a = yes
		leave 1 = 0
		leave 2 = 1
		define 9223372036854775807 a x = ok
		define -9223372036854775808 a x = ok
		define -9223372036854775808 b x = ok
		leave 9223372036854775807 = 1
		leave -9223372036854775808 = 2`)
}

// P18.2, P18.4: numbers rise in the order in which texts were needed first, on any connection
func TestNeed(t *testing.T) {
	book(t, `
		need 5 x = s1 new
		need 5 x = s1
		need 6 y = s2 new
		need 5 z = s3 new
		need 6 x = s1 new
		need 6 x = s1
		need 5 y = s2 new
		need 5 y = s2
		need 6 y = s2
		need 7 z = s3 new
		need 7 "" = s4 new
		need 5 "" = s4 new
		need 7 "" = s4
		need 7 X = s5 new
		need 7 "x\x00" = s6 new
		need 7 "\x20x" = s7 new
		need 7 "\xff" = s8 new
		need 7 "\xfe" = s9 new
		need 7 s1 = s10 new
		need 7 x = s1 new
		need 7 s1 = s10
		need 0 x = s1 new
		need -1 x = s1 new
		need 4294967301 x = s1 new
		need 9223372036854775807 x = s1 new
		need -9223372036854775808 new = s11 new
		need -9223372036854775808 x = s1 new
		need 9223372036854775807 x = s1
		has 5 = s1 s3 s2 s4
		has 6 = s2 s1
		has 7 = s3 s4 s5 s6 s7 s8 s9 s10 s1
		has 0 = s1
		has -1 = s1
		has 4294967301 = s1
		has 9223372036854775807 = s1
		has -9223372036854775808 = s11 s1`)
}

// P18.2: a text may be of any length
func TestNeedBig(t *testing.T) {
	b := New()
	for i, n := range []int{2000, 2001, 4096, 1 << 16, 1 << 20} {
		name := "s" + strconv.Itoa(i+1)
		for _, fresh := range []bool{true, false} {
			if got, ok := b.Need(1, strings.Repeat("x", n)); got != name || ok != fresh {
				t.Errorf("Need of %d bytes = %q, %t", n, got, ok)
			}
		}
	}
	plays(t, b, "has 1 = s1 s2 s3 s4 s5")
}

// P18.2, P18.4: names stand in the order in which the connection came by them
func TestHas(t *testing.T) {
	texts := []string{"a", "b", "c", "d", "e"}
	for _, order := range []string{"01234", "43210", "20413", "31", "4", "", "0011223344", "4343214", "20202", "1234043210"} {
		b := book(t, "need 9 a = s1 new\nneed 9 b = s2 new\nneed 9 c = s3 new\nneed 9 d = s4 new\nneed 9 e = s5 new")
		var names []string
		for _, digit := range order {
			sql, name := texts[digit-'0'], "s"+string(digit+1)
			had := slices.Contains(names, name)
			if got, fresh := b.Need(1, sql); got != name || fresh == had {
				t.Errorf("%s: Need(1, %q) = %q, %t", order, sql, got, fresh)
			}
			if !had {
				names = append(names, name)
			}
			plays(t, b, "has 1 = "+strings.Join(names, " "))
		}
		plays(t, b, "has 9 = s1 s2 s3 s4 s5\nhas 2 =\nhas -1 =\nhas 4294967297 =")
		plays(t, b, "forget 1 = "+strconv.Itoa(len(names))+"\nhas 1 =")
	}
}

// P18.2, P18.4: what is forgotten must be prepared again; a text keeps its name
func TestForget(t *testing.T) {
	book(t, `
		forget 1 = 0
		need 1 a = s1 new
		need 1 b = s2 new
		need 2 b = s2 new
		forget 3 = 0
		forget 0 = 0
		forget -1 = 0
		forget 4294967297 = 0
		forget 1 = 2
		forget 1 = 0
		has 1 =
		has 2 = s2
		need 2 b = s2
		need 1 b = s2 new
		need 1 c = s3 new
		need 1 a = s1 new
		need 1 b = s2
		need 1 a = s1
		has 1 = s2 s3 s1
		forget 2 = 1
		forget 1 = 3
		need 3 d = s4 new
		need 3 c = s3 new
		need 2 a = s1 new
		has 2 = s1
		has 3 = s4 s3
		need 1 a = s1 new
		forget 1 = 1
		forget 9223372036854775807 = 0
		need -9223372036854775808 a = s1 new
		forget 9223372036854775807 = 0
		forget -9223372036854775808 = 1
		need -9223372036854775808 a = s1 new`)
}

// P18.1, P18.2: clients and connections are each for themselves, be their numbers alike
func TestApart(t *testing.T) {
	book(t, `
		define 1 a x = ok
		has 1 =
		forget 1 = 0
		need 1 x = s1 new
		need 1 y = s2 new
		find 1 s1 = no
		define 1 s1 y = ok
		define 1 s2 y = ok
		has 1 = s1 s2
		leave 1 = 3
		has 1 = s1 s2
		need 1 x = s1
		define 1 a x = ok
		forget 1 = 2
		find 1 a = x
		close 1 a = yes
		need 1 x = s1 new
		need 2 z = s3 new
		leave 2 = 0
		close 1 s1 = no`)
}

// P18.1, P18.2: a book is its own
func TestNewIsNew(t *testing.T) {
	a, b := book(t, ""), book(t, "")
	plays(t, a, "define 1 a x = ok\nneed 1 x = s1 new\nneed 1 y = s2 new")
	plays(t, b, "find 1 a = no\nhas 1 =\nneed 1 y = s1 new\ndefine 1 a y = ok\nleave 1 = 1\nforget 1 = 1")
	plays(t, a, "find 1 a = x\nhas 1 = s1 s2\nneed 1 z = s3 new")
	plays(t, b, "need 1 z = s2 new")
}

// changes is what may happen to a book of TestCopy.
var changes = []string{
	"", "define 1 a z = error 9", "define 1 c z = ok", "define 1 \"\" z = ok", "define 3 a z = ok", "define 2 a \"\" = ok", "close 1 a = yes", "close 1 a = yes\ndefine 1 a z = ok", "close 1 c = no", "close 2 b = yes", "close 2 b = yes\ndefine 2 b z = ok",
	"leave 1 = 3", "leave 2 = 1", "leave 3 = 0", "leave 1 = 3\ndefine 1 a u = ok", "leave 1 = 3\nleave 2 = 1",
	"need 5 x = s1", "need 5 z = s3 new", "need 5 z = s3 new\nneed 5 u = s4 new", "need 5 u = s4 new", "need 6 x = s1 new", "need 7 y = s2 new", "need 7 u = s4 new\nneed 8 v = s5 new", "need 8 v = s4 new\nneed 7 u = s5 new",
	"forget 5 = 2", "forget 6 = 1", "forget 7 = 0", "forget 5 = 2\nneed 5 y = s2 new", "forget 6 = 1\nneed 6 z = s3 new\nneed 6 x = s1 new", "forget 5 = 2\nforget 6 = 1\nforget 8 = 1\nneed 5 u = s4 new",
}

// P18.3: a copy stands there, and goes its own way
func TestCopy(t *testing.T) {
	const from = `
		define 1 a x = ok
		define 1 b y = ok
		define 1 "" x = ok
		define 2 b "" = ok
		need 5 x = s1 new
		need 5 y = s2 new
		need 6 y = s2 new
		need 8 z = s3 new`
	for _, first := range changes {
		for _, second := range changes {
			b := book(t, from)
			begin := full(b)
			c := b.Copy()
			if c == b || full(c) != begin {
				t.Fatalf("a copy has %q, want %q", full(c), begin)
			}
			plays(t, c, first)
			left := full(c)
			if got := full(b); got != begin {
				t.Errorf("%s: the book became %q, was %q", first, got, begin)
			}
			d := c.Copy().Copy()
			plays(t, b, second)
			right := full(b)
			e := b.Copy()
			// Whoever goes on, the others stay.
			for _, b := range []*Book{c, e} {
				plays(t, b, "define 9 new x = ok")
				b.Define(1, "", "other")
				b.Close(1, "b")
				b.Leave(2)
				b.Need(5, "other")
				b.Forget(6)
				sane(t, b)
			}
			if full(d) != left || full(b) != right {
				t.Errorf("%s, %s: there are %q and %q, want %q and %q", first, second, full(d), full(b), left, right)
			}
			sane(t, d)
			sane(t, b)
		}
	}
	plays(t, New().Copy(), "find 1 a = no\nhas 1 =\nneed 1 a = s1 new\ndefine 1 a x = ok\nfind 1 a = x")
}

// P18.2: what is told is new memory, spare room too
func TestToldIsNew(t *testing.T) {
	for n := range 20 {
		b := New()
		for i := range n {
			b.Need(1, strconv.Itoa(i))
			b.Need(2, strconv.Itoa(n-1-i))
		}
		before := full(b)
		for conn := range 4 {
			l := b.Has(conn)
			for i := range l[:cap(l)] {
				l[:cap(l)][i] = "x"
			}
		}
		if got := full(b); got != before {
			t.Errorf("there is %q, was %q", got, before)
		}
	}
}

// P18.1, P18.2: what is kept of texts shares no memory with what was handed in
func TestHandedInTexts(t *testing.T) {
	name, sql := []byte("a"), []byte("x")
	b := New()
	for range 2 {
		b.Define(1, unsafe.String(&name[0], 1), unsafe.String(&sql[0], 1))
		b.Define(1, "", unsafe.String(&sql[0], 1))
		b.Need(5, unsafe.String(&sql[0], 1))
	}
	name[0], sql[0] = 'b', 'y'
	plays(t, b, `
		find 1 a = x
		find 1 b = no
		find 1 "" = x
		close 1 b = no
		define 1 a x = error 9
		need 5 x = s1
		need 5 y = s2 new
		need 6 x = s1 new
		close 1 a = yes
		leave 1 = 1`)
}

// copyOf is a struct's copy.
func copyOf(b *Book) *Book {
	c := *b
	return &c
}

// A nil book, and those that New did not give
func TestForeign(t *testing.T) {
	b := book(t, "define 1 a x = ok\ndefine 1 \"\" y = ok\nneed 1 x = s1 new\nneed 2 y = s2 new")
	before := full(b)
	for _, f := range []*Book{nil, {}, new(Book), copyOf(b), copyOf(b.Copy()), {self: b}, {clients: b.clients, conns: b.conns, texts: b.texts}} {
		for _, n := range []int{1, 2, 0, 9, -1, math.MinInt, math.MaxInt} {
			for _, name := range []string{"a", `""`, "new"} {
				for what, want := range map[string]string{"define": "error 12", "find": "no", "close": "no", "need": "", "leave": "0", "has": "", "forget": "0"} {
					if got := step(t, f, what+" "+strconv.Itoa(n)+" "+name+" x"); got != want {
						t.Errorf("%s %d %s = %s", what, n, name, got)
					}
				}
			}
			// That there is no book is told first.
			if err := f.Define(n, "a", strings.Repeat("x", 2001)); err != api.ErrNil {
				t.Errorf("Define(%d) = %d", n, err)
			}
		}
		if c := f.Copy(); c != nil {
			t.Errorf("Copy = %v", c)
		}
	}
	if got := full(b); got != before {
		t.Errorf("there is %q, was %q", got, before)
	}
	sane(t, b)
}
