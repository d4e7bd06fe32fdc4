package pool

import (
	"maps"
	"math"
	"slices"
	"strconv"
	"strings"
	"testing"
	"unsafe"

	"pontoon/api"
)

// What happens is told, with what is answered, a line each:
//
//	ask g 1 0 = 1 on 1 new   the client 1 asks for the group g at 0: it is lent the connection 1, a new one (or: waits, or: error 11)
//	pin 1 = yes
//	give 1 5 = 2 on 1        the client 1 gives its connection back at 5: it is lent to 2 (or: no)
//	lost 1 5 = 2, 3 on 4 new the connection 1 is lost: 2 held it; a new one is lent to 3 (or: 2, no)
//	leave 2 5 = 1, 3 on 4 new
//	late 5 = 2 3             who waited for too long
//	reap 5 = 1 4
//	holds 1 = 4              (or: no)
//	count g = 3 2 1          connections, idle ones, and who waits
//
// A group that is not a plain word is told as Go tells texts.

// lent is a loan as text.
func lent(l Loan, ok bool) string {
	text := "no"
	if ok {
		text = strconv.Itoa(l.Client) + " on " + strconv.Itoa(l.Conn)
	} else if l != (Loan{}) {
		text = "no, but " + strconv.Itoa(l.Client) + " on " + strconv.Itoa(l.Conn)
	}
	if l.Fresh {
		text += " new"
	}
	return text
}

// told is what Ask answers, as text.
func told(l Loan, ok bool, err api.Errno) string {
	text := lent(l, ok)
	if err != api.OK {
		return "error " + strconv.Itoa(int(err)) + ", " + text
	}
	if text == "no" {
		return "waits"
	}
	return text
}

// list is numbers as text.
func list(l []int) string {
	var words []string
	for _, n := range l {
		words = append(words, strconv.Itoa(n))
	}
	return strings.Join(words, " ")
}

// yes is yes, or no.
func yes(ok bool) string {
	if ok {
		return "yes"
	}
	return "no"
}

// name is a group's name.
func name(t *testing.T, word string) string {
	t.Helper()
	if !strings.HasPrefix(word, `"`) {
		return word
	}
	text, err := strconv.Unquote(word)
	if err != nil {
		t.Fatal(err)
	}
	return text
}

// numbers is the numbers of words.
func numbers(t *testing.T, words []string) []int {
	t.Helper()
	var l []int
	for _, w := range words {
		n, err := strconv.Atoi(w)
		if err != nil {
			t.Fatal(err)
		}
		l = append(l, n)
	}
	return l
}

// step lets something happen: what is answered, as text.
func step(t *testing.T, p *Pool, what string) string {
	t.Helper()
	words := strings.Fields(what)
	group := ""
	if words[0] == "ask" || words[0] == "count" {
		group = name(t, words[1])
		words = words[1:]
	}
	n := append(numbers(t, words[1:]), 0)
	switch strings.Fields(what)[0] {
	case "ask":
		return told(p.Ask(group, n[0], n[1]))
	case "pin":
		return yes(p.Pin(n[0]))
	case "give":
		return lent(p.Give(n[0], n[1]))
	case "lost":
		client, l, ok := p.Lost(n[0], n[1])
		return strconv.Itoa(client) + ", " + lent(l, ok)
	case "leave":
		conn, l, ok := p.Leave(n[0], n[1])
		return strconv.Itoa(conn) + ", " + lent(l, ok)
	case "late":
		return list(p.Late(n[0]))
	case "reap":
		return list(p.Reap(n[0]))
	case "holds":
		conn, ok := p.Holds(n[0])
		if !ok && conn == 0 {
			return "no"
		}
		return strings.TrimSuffix(strconv.Itoa(conn)+" "+yes(ok), " yes")
	case "count":
		conns, idle, waiting := p.Count(group)
		return list([]int{conns, idle, waiting})
	}
	t.Fatalf("there is no %q", what)
	return ""
}

// plays lets happen what lines tell, and checks what is answered.
func plays(t *testing.T, p *Pool, lines string) {
	t.Helper()
	for line := range strings.Lines(lines) {
		what, want, is := strings.Cut(strings.TrimSpace(line), " =")
		if !is {
			continue
		}
		want = strings.TrimSpace(want)
		before := full(p)
		if got := step(t, p, what); got != want {
			t.Errorf("%s = %s, want %s", what, got, want)
		}
		sane(t, p)
		if after := full(p); strings.HasPrefix(want, "error") && after != before {
			t.Errorf("%s: there is %q, was %q", what, after, before)
		}
	}
}

// pool is a new one, with what lines tell.
func pool(t *testing.T, limit, queue, wait, idle int, lines string) *Pool {
	t.Helper()
	p, err := New(limit, queue, wait, idle)
	if p == nil || err != api.OK {
		t.Fatalf("New(%d, %d, %d, %d) = %v, %d", limit, queue, wait, idle, p, err)
	}
	plays(t, p, lines)
	return p
}

// full is all that is kept of a pool, but for till when somebody waits.
func full(p *Pool) string {
	text := list([]int{p.limit, p.queue, p.wait, p.idle, p.last}) + ";"
	for _, name := range slices.Sorted(maps.Keys(p.groups)) {
		g := p.groups[name]
		text += " " + strconv.Quote(name) + ": " + strconv.Itoa(g.conns) + ", idle"
		for _, r := range g.idle {
			text += " " + strconv.Itoa(r.conn) + "@" + strconv.Itoa(r.since)
		}
		text += ", line " + list(g.line.All()) + ";"
	}
	for _, client := range slices.Sorted(maps.Keys(p.seats)) {
		s := p.seats[client]
		text += " " + strconv.Itoa(client) + " on " + strconv.Itoa(s.conn) + " of " + s.in.name
		if s.pinned {
			text += " pinned"
		}
	}
	return text
}

// sane checks that what is kept fits together, that no more is kept than is needed, and the laws.
func sane(t *testing.T, p *Pool) {
	t.Helper()
	seats, links := 0, 0
	for name, g := range p.groups {
		if g.name != name || g.conns < 1 || g.conns > p.limit {
			t.Errorf("the group %q is named %q, and has %d connections of %d", name, g.name, g.conns, p.limit)
		}
		if !slices.IsSortedFunc(g.idle, func(a, b rest) int { return 2*earlier(a, b) + 1 }) {
			t.Errorf("idle are %v", g.idle)
		}
		for _, r := range g.idle {
			if got := p.links[r.conn]; got != (link{g, nobody, r.since}) {
				t.Errorf("%d is idle since %d, and has the link %v", r.conn, r.since, got)
			}
		}
		line := g.line.All()
		for _, client := range line {
			if got := p.seats[client]; got != (seat{in: g}) {
				t.Errorf("%d waits, and has the seat %v", client, got)
			}
		}
		if len(line) > p.queue || len(line) > 0 && (len(g.idle) > 0 || g.conns < p.limit) {
			t.Errorf("%d wait for %d connections of %d, %d of them idle", len(line), g.conns, p.limit, len(g.idle))
		}
		seats += g.conns - len(g.idle) + len(line)
		links += g.conns
	}
	for client, s := range p.seats {
		if p.groups[s.in.name] != s.in || s.conn > 0 && p.links[s.conn] != (link{in: s.in, client: client}) {
			t.Errorf("%d has the seat %v, and its connection the link %v", client, s, p.links[s.conn])
		}
	}
	for conn, l := range p.links {
		if p.groups[l.in.name] != l.in || conn < 1 || conn > p.last {
			t.Errorf("the connection %d has the link %v", conn, l)
		}
	}
	if len(p.seats) != seats || len(p.links) != links {
		t.Errorf("there are %d seats and %d links, want %d and %d", len(p.seats), len(p.links), seats, links)
	}
}

// P17.2, P17.3: the example of the chapter
func TestExample(t *testing.T) {
	p, err := New(1, 9, 5, 5)
	if err != api.OK {
		t.Fatal(err)
	}
	if l, ok, err := p.Ask("g", 1, 0); l != (Loan{1, 1, true}) || !ok || err != api.OK {
		t.Errorf("Ask = %v, %t, %d", l, ok, err)
	}
	if l, ok, err := p.Ask("g", 2, 0); l != (Loan{}) || ok || err != api.OK {
		t.Errorf("Ask = %v, %t, %d", l, ok, err)
	}
	if l, ok := p.Give(1, 1); l != (Loan{2, 1, false}) || !ok {
		t.Errorf("Give = %v, %t", l, ok)
	}
}

// P17.1: each number at its edges, and beyond them
func TestNew(t *testing.T) {
	good := [][]int{{1, 2, 999, 1000}, {1, 2, 1 << 31, 1 << 32, 1<<39 - 1, 1 << 39}}
	wrong := []int{0, -1, -2, math.MinInt, math.MaxInt, 1<<39 + 1, 1 << 40, -1 << 39, 1 << 62}
	for at := range 4 {
		for _, n := range good[at/2] {
			l := []int{3, 4, 5, 6}
			l[at] = n
			plays(t, pool(t, l[0], l[1], l[2], l[3], ""), "count g = 0 0 0")
		}
		for _, n := range append(slices.Clone(wrong), 1001, 1002, 1<<32+1, 1<<39)[:len(wrong)+4*(1-at/2)] {
			l := []int{3, 4, 5, 6}
			l[at] = n
			if p, err := New(l[0], l[1], l[2], l[3]); p != nil || err != api.ErrArg {
				t.Errorf("New(%v) = %v, %d", l, p, err)
			}
		}
	}
	pool(t, 1, 1, 1, 1, "")
	pool(t, 1000, 1000, 1<<39, 1<<39, "")
}

// ofSizes is what happens to a pool of the sizes 2 and 3, and the times 4 and 5.
const ofSizes = `
	ask g 1 10 = 1 on 1 new
	ask g 2 10 = 2 on 2 new
	ask g 3 10 = waits
	ask g 4 10 = waits
	ask g 5 10 = waits
	ask g 6 10 = error 11, no
	late 13 =
	late 14 = 3 4 5
	give 1 20 = no
	reap 24 =
	reap 25 = 1`

// P17.1: each number is that of its own thing
func TestNewKeeps(t *testing.T) {
	pool(t, 2, 3, 4, 5, ofSizes)
}

// P17.1: a pool is its own, and so are its numbers
func TestNewIsNew(t *testing.T) {
	a, b := pool(t, 1, 1, 5, 5, ""), pool(t, 1, 1, 5, 5, "")
	plays(t, a, "ask g 1 0 = 1 on 1 new\nask g 2 0 = waits\nask h 3 0 = 3 on 2 new")
	plays(t, b, "count g = 0 0 0\nholds 1 = no\nask h 2 0 = 2 on 1 new\nask g 1 0 = 1 on 2 new")
	plays(t, a, "count g = 1 0 1\ncount h = 1 0 0\nholds 1 = 1\nholds 3 = 2\nask i 4 0 = 4 on 3 new")
}

// P17.2: new ones, till there are as many as may be; numbers rise over all groups; then a line
func TestAsk(t *testing.T) {
	pool(t, 2, 2, 5, 5, `
		ask g 7 0 = 7 on 1 new
		ask h 3 0 = 3 on 2 new
		ask g 0 9 = 0 on 3 new
		ask "" 1 0 = 1 on 4 new
		ask g 9223372036854775807 549755813888 = waits
		ask g 4294967296 0 = waits
		ask g 5 0 = error 11, no
		ask h 5 0 = 5 on 5 new
		ask h 6 0 = waits
		ask "g\x00" 8 0 = 8 on 6 new
		ask G 9 0 = 9 on 7 new
		ask "\xff" 10 0 = 10 on 8 new
		ask "\xfe" 11 0 = 11 on 9 new
		count g = 2 0 2
		count h = 2 0 1
		count "" = 1 0 0
		count "g\x00" = 1 0 0
		count i = 0 0 0
		holds 0 = 3
		holds 7 = 1
		holds 5 = 5
		holds 6 = no
		holds 9223372036854775807 = no`)
}

// P17.2: as many as may be, at the limits' greatest
func TestAskFull(t *testing.T) {
	for _, most := range [][2]int{{1, 1}, {1, 1000}, {2, 3}, {1000, 1}, {1000, 1000}} {
		p := pool(t, most[0], most[1], 5, 5, "")
		for client := range most[0] {
			if l, ok, err := p.Ask("g", client, 3); l != (Loan{client, client + 1, true}) || !ok || err != api.OK {
				t.Fatalf("Ask(%d) = %v, %t, %d", client, l, ok, err)
			}
		}
		for i := range most[1] {
			if l, ok, err := p.Ask("g", most[0]+i, 3); l != (Loan{}) || ok || err != api.OK {
				t.Fatalf("Ask(%d) = %v, %t, %d", most[0]+i, l, ok, err)
			}
		}
		plays(t, p, "ask g 5000 3 = error 11, no\nask g 5000 0 = error 11, no\nholds 5000 = no\nleave 5000 0 = 0, no")
		plays(t, p, "count g = "+list([]int{most[0], 0, most[1]}))
		// Who is told that it is full may ask elsewhere, and there again when there is room.
		plays(t, p, "ask h 5000 3 = 5000 on "+strconv.Itoa(most[0]+1)+" new\nleave "+strconv.Itoa(most[0])+" 3 = 0, no\nask g 5001 3 = waits\nask g 5002 3 = error 11, no")
	}
}

// P17.2: what can't be asked, wherever the pool stands
func TestAskWrong(t *testing.T) {
	for _, from := range []string{"", "ask g 1 0 = 1 on 1 new", "ask g 1 0 = 1 on 1 new\ngive 1 0 = no", "ask g 1 0 = 1 on 1 new\nask g 2 0 = waits", "ask g 1 0 = 1 on 1 new\nask g 2 0 = waits\nask g 3 0 = waits"} {
		p := pool(t, 1, 2, 5, 5, from)
		for _, client := range []int{-1, -2, math.MinInt} {
			for _, now := range []int{0, 5, 1 << 39, -1, math.MaxInt} {
				plays(t, p, "ask g "+list([]int{client, now})+" = error 1, no\nholds "+strconv.Itoa(client)+" = no")
			}
		}
		for _, client := range []int{0, 1, 2, 9, math.MaxInt} {
			for _, now := range []int{-1, -2, 1<<39 + 1, 1 << 40, math.MinInt, math.MaxInt} {
				plays(t, p, "ask g "+list([]int{client, now})+" = error 1, no\nask new "+list([]int{client, now})+" = error 1, no\ncount new = 0 0 0")
			}
		}
	}
}

// P17.2: who holds one, or waits, can't ask, in its group or another one, full or not
func TestAskTwice(t *testing.T) {
	pool(t, 1, 1, 5, 5, `
		ask g 1 0 = 1 on 1 new
		ask g 1 0 = error 10, no
		ask h 1 0 = error 10, no
		ask g 2 0 = waits
		ask g 2 0 = error 10, no
		ask h 2 0 = error 10, no
		ask g 1 0 = error 10, no
		pin 1 = yes
		ask g 1 0 = error 10, no
		ask h 1 0 = error 10, no
		count h = 0 0 0
		late 5 = 2
		ask h 2 0 = 2 on 2 new
		leave 1 0 = 1, no
		ask h 1 0 = waits
		ask g 1 0 = error 10, no
		give 2 0 = 1 on 2
		ask h 1 0 = error 10, no
		ask g 2 0 = 2 on 3 new
		lost 3 0 = 2, no
		ask g 2 0 = 2 on 4 new`)
}

// P17.2: the one that is idle for the shortest time is lent, of these the one with the greatest number, before a new one
func TestAskIdle(t *testing.T) {
	const four = "ask g 1 0 = 1 on 1 new\nask g 2 0 = 2 on 2 new\nask g 3 0 = 3 on 3 new\nask g 4 0 = 4 on 4 new\n"
	for _, f := range [][2]string{
		{"1@5 2@6 3@7 4@8", "4 3 2 1"}, {"4@5 3@6 2@7 1@8", "1 2 3 4"}, {"1@5 2@5 3@5 4@5", "4 3 2 1"}, {"4@5 3@5 2@5 1@5", "4 3 2 1"}, {"2@5 4@5 1@5 3@5", "4 3 2 1"},
		{"2@6 4@5 1@6 3@5", "2 1 4 3"}, {"1@9 2@5 3@7", "1 3 2 5"}, {"3@9 1@-5 2@0", "3 2 1 5"}, {"3@9", "3 5 6 7"}, {"1@549755813888 2@9", "1 2 5 6"}, {"4@-9223372036854775808 2@9223372036854775807 3@0 1@1", "2 1 3 4"},
	} {
		p := pool(t, 7, 9, 5, 5, four)
		for _, r := range strings.Fields(f[0]) {
			client, since, _ := strings.Cut(r, "@")
			plays(t, p, "give "+client+" "+since+" = no\nholds "+client+" = no")
		}
		for i, conn := range strings.Fields(f[1]) {
			want := strconv.Itoa(10+i) + " on " + conn
			if conn > "4" {
				want += " new"
			}
			// The time of asking doesn't matter, nor what is idle elsewhere.
			plays(t, p, "ask g "+strconv.Itoa(10+i)+" "+strconv.Itoa(3*i%5)+" = "+want)
		}
	}
}

// P17.2: a group lends its own
func TestAskElsewhere(t *testing.T) {
	pool(t, 1, 3, 5, 5, `
		ask g 1 0 = 1 on 1 new
		give 1 5 = no
		ask h 2 6 = 2 on 2 new
		ask h 3 6 = waits
		count g = 1 1 0
		ask h 1 6 = waits
		ask g 4 6 = 4 on 1
		give 4 7 = no
		give 2 7 = 3 on 2
		count g = 1 1 0`)
}

// P17.2, P17.5: till when somebody waits, at the edges
func TestDeadline(t *testing.T) {
	for _, wait := range []int{1, 2, 5, 1 << 31, 1<<39 - 1, 1 << 39} {
		for _, now := range []int{0, 1, 7, 1 << 32, 1<<39 - 1, 1 << 39} {
			p := pool(t, 1, 1, wait, 5, "ask g 1 0 = 1 on 1 new")
			plays(t, p, "ask g 2 "+strconv.Itoa(now)+" = waits\nlate "+strconv.Itoa(now+wait-1)+" =")
			c := p.Copy()
			plays(t, p, "late "+strconv.Itoa(now+wait)+" = 2")
			plays(t, c, "late "+strconv.Itoa(now+wait+1)+" = 2")
		}
	}
}

// P17.3: does it hold one?
func TestPin(t *testing.T) {
	pool(t, 1, 2, 5, 5, `
		pin 1 = no
		ask g 1 0 = 1 on 1 new
		ask g 2 0 = waits
		pin 2 = no
		pin 3 = no
		pin -1 = no
		pin 0 = no
		pin -9223372036854775808 = no
		pin 9223372036854775807 = no
		pin 1 = yes
		pin 1 = yes
		give 1 1 = no
		holds 1 = 1
		holds 2 = no
		count g = 1 0 1
		ask h 0 0 = 0 on 2 new
		pin 0 = yes
		give 0 1 = no
		holds 0 = 2
		late 5 = 2
		pin 2 = no`)
}

// P17.3: who is lent a connection has not pinned it, whoever did so before
func TestPinEnds(t *testing.T) {
	pool(t, 1, 2, 5, 5, `
		ask g 1 0 = 1 on 1 new
		ask g 2 0 = waits
		pin 1 = yes
		leave 1 0 = 1, 2 on 2 new
		give 2 1 = no
		count g = 1 1 0
		ask g 1 2 = 1 on 2
		give 1 3 = no
		count g = 1 1 0
		ask g 2 4 = 2 on 2
		pin 2 = yes
		lost 2 5 = 2, no
		ask g 2 5 = 2 on 3 new
		give 2 5 = no
		count g = 1 1 0`)
}

// P17.3: to the first one of the group's line, and not a new one; or it is idle
func TestGive(t *testing.T) {
	pool(t, 2, 5, 5, 5, `
		give 1 0 = no
		give -1 0 = no
		give 0 0 = no
		ask g 1 0 = 1 on 1 new
		ask g 2 0 = 2 on 2 new
		ask h 11 0 = 11 on 3 new
		ask h 12 0 = 12 on 4 new
		ask g 5 4 = waits
		ask h 13 0 = waits
		ask g 3 0 = waits
		ask g 4 2 = waits
		give 3 0 = no
		give 9 0 = no
		count g = 2 0 3
		give 2 1 = 5 on 2
		holds 2 = no
		holds 5 = 2
		give 2 1 = no
		ask g 2 1 = waits
		give 5 1 = 3 on 2
		count h = 2 0 1
		give 12 1 = 13 on 4
		give 13 1 = no
		count h = 2 1 0
		give 1 1 = 4 on 1
		give 4 1 = 2 on 1
		give 3 -1 = no
		give 2 -9223372036854775808 = no
		count g = 2 2 0
		give 2 1 = no
		give 11 9223372036854775807 = no
		count h = 2 2 0
		reap -1 = 1
		reap 3 =
		reap 4 = 2
		reap 9223372036854775807 = 4`)
}

// P17.3, P17.4: whose time has come is served, too, as long as nobody has asked who is late
func TestGiveLate(t *testing.T) {
	pool(t, 1, 5, 5, 5, `
		ask g 1 0 = 1 on 1 new
		ask g 2 0 = waits
		ask g 3 0 = waits
		ask g 4 0 = waits
		ask g 5 4 = waits
		give 1 5 = 2 on 1
		lost 1 100 = 2, 3 on 2 new
		late 5 = 4
		give 3 9 = 5 on 2
		late 9223372036854775807 =`)
}

// P17.4: who held it, and who is lent a new one
func TestLost(t *testing.T) {
	pool(t, 2, 5, 5, 5, `
		lost 1 0 = -1, no
		lost 0 0 = -1, no
		ask g 1 0 = 1 on 1 new
		ask g 2 0 = 2 on 2 new
		ask g 3 4 = waits
		ask g 4 0 = waits
		ask h 5 0 = 5 on 3 new
		lost 0 0 = -1, no
		lost -1 0 = -1, no
		lost 4 0 = -1, no
		lost -9223372036854775808 0 = -1, no
		lost 9223372036854775807 0 = -1, no
		pin 2 = yes
		lost 2 1 = 2, 3 on 4 new
		lost 2 1 = -1, no
		holds 2 = no
		holds 3 = 4
		count g = 2 0 1
		lost 4 -1 = 3, 4 on 5 new
		lost 1 9223372036854775807 = 1, no
		count g = 1 0 0
		lost 5 -9223372036854775808 = 4, no
		count g = 0 0 0
		lost 5 0 = -1, no
		ask g 0 0 = 0 on 6 new
		lost 6 0 = 0, no
		count h = 1 0 0
		lost 3 0 = 5, no
		ask g 1 0 = 1 on 7 new`)
}

// P17.4: an idle one, wherever it stands among the others
func TestLostIdle(t *testing.T) {
	const five = "ask g 1 0 = 1 on 1 new\nask g 2 0 = 2 on 2 new\nask g 3 0 = 3 on 3 new\nask g 4 0 = 4 on 4 new\nask g 5 0 = 5 on 5 new\ngive 2 7 = no\ngive 3 5 = no\ngive 5 5 = no\ngive 4 9 = no\n"
	for _, f := range [][2]string{{"2", "4 5 3"}, {"3", "4 2 5"}, {"4", "2 5 3"}, {"5", "4 2 3"}} {
		p := pool(t, 5, 5, 5, 5, five)
		plays(t, p, "lost "+f[0]+" 9 = -1, no\nlost "+f[0]+" 9 = -1, no\ncount g = 4 3 0")
		for i, conn := range append(strings.Fields(f[1]), "6 new") {
			plays(t, p, "ask g "+strconv.Itoa(10+i)+" 0 = "+strconv.Itoa(10+i)+" on "+conn)
		}
		plays(t, p, "holds 1 = 1\nask g 20 0 = waits")
	}
}

// P17.4: the only connection of a group with a line is lost again and again: all who wait are served, in order
func TestLostLine(t *testing.T) {
	pool(t, 1, 5, 5, 5, `
		ask g 1 0 = 1 on 1 new
		ask g 2 0 = waits
		ask g 3 0 = waits
		ask g 4 0 = waits
		lost 1 0 = 1, 2 on 2 new
		count g = 1 0 2
		ask g 1 0 = waits
		leave 2 0 = 2, 3 on 3 new
		lost 3 0 = 3, 4 on 4 new
		give 4 0 = 1 on 4
		leave 1 0 = 4, no
		count g = 0 0 0
		ask g 1 0 = 1 on 5 new`)
}

// P17.4: who holds one, who waits, and who is not there
func TestLeave(t *testing.T) {
	pool(t, 2, 5, 5, 5, `
		leave 1 0 = 0, no
		leave 0 0 = 0, no
		leave -1 0 = 0, no
		ask g 1 0 = 1 on 1 new
		ask g 2 0 = 2 on 2 new
		ask g 3 0 = waits
		ask g 4 0 = waits
		ask g 5 0 = waits
		ask h 6 0 = 6 on 3 new
		leave 9 0 = 0, no
		leave -9223372036854775808 0 = 0, no
		leave 9223372036854775807 0 = 0, no
		leave 4 0 = 0, no
		leave 4 0 = 0, no
		count g = 2 0 2
		pin 1 = yes
		leave 1 9223372036854775807 = 1, 3 on 4 new
		leave 1 0 = 0, no
		holds 1 = no
		ask g 4 0 = waits
		ask g 1 0 = waits
		leave 2 -1 = 2, 5 on 5 new
		leave 3 -9223372036854775808 = 4, 4 on 6 new
		leave 5 0 = 5, 1 on 7 new
		leave 4 0 = 6, no
		count g = 1 0 0
		give 1 0 = no
		leave 1 0 = 0, no
		count g = 1 1 0
		leave 6 0 = 3, no
		count h = 0 0 0
		late 100 =
		ask h 0 0 = 0 on 8 new
		ask g 6 0 = 6 on 7
		leave 0 0 = 8, no
		ask h 0 0 = 0 on 9 new`)
}

// P17.4: who left a line is not served any more, and is not late
func TestLeaveLine(t *testing.T) {
	pool(t, 1, 3, 5, 5, `
		ask g 1 0 = 1 on 1 new
		ask g 2 0 = waits
		ask g 3 0 = waits
		ask g 4 0 = waits
		leave 2 0 = 0, no
		leave 4 0 = 0, no
		ask h 2 0 = 2 on 2 new
		late 5 = 3
		ask g 3 1 = waits
		ask g 4 0 = waits
		ask h 5 0 = waits
		leave 3 9 = 0, no
		give 1 0 = 4 on 1
		give 4 0 = no
		count g = 1 1 0
		ask g 3 0 = 3 on 1`)
}

// P17.5: by groups in rising order, byte by byte, of a group in its line's order
func TestLate(t *testing.T) {
	from := ""
	for i, group := range []string{"b", `"a\xff"`, `"\xff"`, "B", `""`, "a", `"a\x00"`, `"é"`, "ab", "é"} {
		for j := range 4 {
			from += "ask " + group + " " + strconv.Itoa(10*i+j) + " 0 = "
			if j == 0 && i < 9 {
				from += strconv.Itoa(10*i) + " on " + strconv.Itoa(i+1) + " new\n"
				continue
			}
			// The last group is the one of "é" once more.
			from += "waits\n"
		}
	}
	order := []int{4, 3, 5, 6, 8, 1, 0, 7, 2}
	var all []int
	for _, i := range order {
		all = append(all, 10*i+1, 10*i+2, 10*i+3)
		if i == 7 {
			all = append(all, 90, 91, 92, 93)
		}
	}
	p := pool(t, 1, 9, 5, 5, from)
	for _, now := range []int{0, 4, -1, math.MinInt} {
		plays(t, p, "late "+strconv.Itoa(now)+" =")
	}
	for _, now := range []int{5, 6, api.MaxTime, math.MaxInt} {
		c := p.Copy()
		plays(t, c, "late "+strconv.Itoa(now)+" = "+list(all)+"\nlate "+strconv.Itoa(now)+" =")
		for _, client := range all {
			plays(t, c, "leave "+strconv.Itoa(client)+" 0 = 0, no")
		}
		for i, group := range strings.Fields(`b "a\xff" "\xff" B "" a "a\x00" é ab`) {
			plays(t, c, "count "+group+" = 1 0 0\nholds "+strconv.Itoa(10*i)+" = "+strconv.Itoa(i+1))
		}
	}
}

// P17.5: some are late, some are not
func TestLateSome(t *testing.T) {
	pool(t, 1, 9, 5, 5, `
		late 100 =
		ask g 1 0 = 1 on 1 new
		ask h 2 0 = 2 on 2 new
		late 100 =
		ask h 3 4 = waits
		ask g 4 6 = waits
		ask h 5 3 = waits
		ask g 6 2 = waits
		ask g 7 7 = waits
		ask h 8 4 = waits
		ask g 9 1 = waits
		late 6 = 9
		late 8 = 6 5
		count g = 1 0 2
		count h = 1 0 2
		ask g 9 3 = waits
		ask g 6 4 = waits
		late 9 = 9 6 3 8
		give 2 9 = no
		give 1 9 = 4 on 1
		late 12 = 7
		give 4 9 = no
		late 100 =`)
}

// P17.5: the connections that are idle for too long, by rising numbers, of all groups
func TestReap(t *testing.T) {
	p := pool(t, 4, 9, 5, 3, `
		reap 100 =
		ask z 1 0 = 1 on 1 new
		ask a 2 0 = 2 on 2 new
		ask z 3 0 = 3 on 3 new
		ask a 4 0 = 4 on 4 new
		ask m 5 0 = 5 on 5 new
		ask z 6 0 = 6 on 6 new
		ask a 7 0 = 7 on 7 new
		ask m 8 0 = 8 on 8 new
		reap 100 =
		give 6 5 = no
		give 1 5 = no
		give 4 6 = no
		give 2 4 = no
		give 3 9 = no
		give 5 5 = no`)
	for _, f := range [][2]string{
		{"6", ""}, {"7", "2"}, {"8", "1 2 5 6"}, {"9", "1 2 4 5 6"}, {"11", "1 2 4 5 6"}, {"12", "1 2 3 4 5 6"}, {"13", "1 2 3 4 5 6"}, {"9223372036854775807", "1 2 3 4 5 6"},
		{"0", ""}, {"-1", ""}, {"-9223372036854775808", ""}, {"-9223372036854775805", ""},
	} {
		c := p.Copy()
		plays(t, c, "reap "+f[0]+" = "+f[1]+"\nreap "+f[0]+" =\nholds 7 = 7\nholds 8 = 8")
		for _, conn := range strings.Fields(f[1]) {
			plays(t, c, "lost "+conn+" 0 = -1, no")
		}
		z := 3 - strings.Count(f[1], "1") - strings.Count(f[1], "3") - strings.Count(f[1], "6")
		plays(t, c, "count z = "+list([]int{z, z, 0}))
	}
	plays(t, p, `
		reap 8 = 1 2 5 6
		count z = 1 1 0
		count a = 2 1 0
		count m = 1 0 0
		ask z 10 8 = 10 on 3
		ask z 11 8 = 11 on 9 new
		give 10 8 = no
		reap 9 = 4
		reap 11 = 3
		count z = 1 0 0
		count a = 1 0 0
		give 11 9 = no
		reap 12 = 9
		count z = 0 0 0
		ask z 12 12 = 12 on 10 new`)
}

// P17.5: since when a connection is idle, and for how long, at the edges
func TestReapEdges(t *testing.T) {
	for _, idle := range []int{1, 2, 1 << 31, 1<<39 - 1, 1 << 39} {
		for _, since := range []int{0, 1, 5, 1 << 32, 1 << 39, -1, -1 << 39, math.MinInt, math.MinInt + 1, math.MaxInt - 1<<39} {
			p := pool(t, 1, 1, 5, idle, "ask g 1 0 = 1 on 1 new\ngive 1 "+strconv.Itoa(since)+" = no")
			for _, now := range []int{since + idle - 1, since, math.MinInt, math.MinInt + 1, math.MinInt + idle - 1} {
				if now < since+idle {
					plays(t, p, "reap "+strconv.Itoa(now)+" =")
				}
			}
			c := p.Copy()
			plays(t, p, "reap "+strconv.Itoa(since+idle)+" = 1\ncount g = 0 0 0")
			plays(t, c, "reap "+strconv.Itoa(max(since+idle, since+idle+1))+" = 1\ncount g = 0 0 0")
		}
		// It is idle till times end.
		plays(t, pool(t, 1, 1, 5, idle, "ask g 1 0 = 1 on 1 new"), "give 1 9223372036854775807 = no\nreap 9223372036854775807 =\nreap -9223372036854775808 =\ncount g = 1 1 0")
	}
}

// P17.5: how long a connection was idle before it was lent doesn't matter
func TestReapAgain(t *testing.T) {
	pool(t, 2, 1, 5, 5, `
		ask g 1 0 = 1 on 1 new
		ask g 2 0 = 2 on 2 new
		give 1 0 = no
		ask g 1 4 = 1 on 1
		reap 5 =
		give 2 1 = no
		give 1 4 = no
		reap 5 =
		reap 6 = 2
		reap 8 =
		reap 9 = 1`)
}

// P17.6: which one is held, and how many there are
func TestHoldsCount(t *testing.T) {
	pool(t, 3, 9, 5, 5, `
		holds 0 = no
		count "" = 0 0 0
		ask "" 0 0 = 0 on 1 new
		ask "" 1 0 = 1 on 2 new
		ask "" 2 0 = 2 on 3 new
		holds 0 = 1
		holds 1 = 2
		holds 2 = 3
		holds 3 = no
		holds -1 = no
		holds -9223372036854775808 = no
		holds 9223372036854775807 = no
		count "" = 3 0 0
		ask "" 3 0 = waits
		ask "" 4 0 = waits
		holds 3 = no
		count "" = 3 0 2
		give 1 0 = 3 on 2
		holds 3 = 2
		holds 1 = no
		count "" = 3 0 1
		late 5 = 4
		give 0 0 = no
		holds 0 = no
		count "" = 3 1 0
		give 3 0 = no
		count "" = 3 2 0
		count "\x00" = 0 0 0
		lost 1 0 = -1, no
		count "" = 2 1 0`)
}

// changes is what may happen to the pool of copies.
var changes = []string{
	"ask g 7 5 = waits", "ask i 7 5 = 7 on 6 new", "ask h 7 5 = 7 on 4", "ask i 7 5 = 7 on 6 new\nask i 8 5 = 8 on 7 new\nask i 9 5 = waits", "ask h 7 5 = 7 on 4\nask h 8 5 = 8 on 3\nask h 9 5 = waits",
	"pin 1 = yes", "pin 1 = yes\nleave 1 5 = 1, 3 on 6 new", "give 1 5 = 3 on 1", "give 1 5 = 3 on 1\ngive 2 5 = no\ngive 3 5 = 4 on 1\ngive 4 5 = no", "give 5 5 = no", "give 5 0 = no",
	"lost 1 5 = 1, 3 on 6 new", "lost 1 5 = 1, 3 on 6 new\nlost 2 5 = 2, 4 on 7 new\nlost 6 5 = 3, no", "lost 3 5 = -1, no", "lost 4 5 = -1, no\nlost 3 5 = -1, no", "lost 5 5 = 5, no",
	"leave 2 5 = 2, 3 on 6 new", "leave 3 5 = 0, no", "leave 4 5 = 0, no", "leave 4 5 = 0, no\nask g 4 0 = waits", "leave 5 5 = 5, no\nask j 5 0 = 5 on 6 new",
	"late 6 = 3", "late 9 = 3 4", "late 6 = 3\nask g 3 1 = waits", "reap 6 = 3", "reap 9 = 3 4", "reap 6 = 3\nask h 7 6 = 7 on 4\nask h 8 6 = 8 on 6 new",
}

// P17.6: a copy stands there, and goes its own way
func TestCopy(t *testing.T) {
	const from = `
		ask g 1 0 = 1 on 1 new
		ask g 2 0 = 2 on 2 new
		ask h 3 0 = 3 on 3 new
		ask h 4 0 = 4 on 4 new
		ask j 5 0 = 5 on 5 new
		give 3 1 = no
		give 4 2 = no
		ask g 3 1 = waits
		ask g 4 2 = waits
		pin 2 = yes`
	for _, first := range changes {
		for _, second := range changes {
			p := pool(t, 2, 3, 5, 5, from)
			begin := full(p)
			c := p.Copy()
			if c == p || full(c) != begin {
				t.Fatalf("a copy has %q, want %q", full(c), begin)
			}
			plays(t, c, first)
			left := full(c)
			if got := full(p); got != begin {
				t.Errorf("%s: the pool became %q, was %q", first, got, begin)
			}
			d := c.Copy().Copy()
			plays(t, p, second)
			right := full(p)
			e := p.Copy()
			// Whoever goes on, the others stay.
			for _, p := range []*Pool{c, e} {
				p.Ask("k", 100, 9)
				p.Leave(1, 9)
				p.Late(100)
				p.Reap(100)
				sane(t, p)
			}
			if full(d) != left || full(p) != right {
				t.Errorf("%s, %s: there are %q and %q, want %q and %q", first, second, full(d), full(p), left, right)
			}
			sane(t, d)
			sane(t, p)
		}
	}
}

// P17.6: a copy's sizes and times are the same
func TestCopySizes(t *testing.T) {
	c := pool(t, 2, 3, 4, 5, "").Copy()
	plays(t, c.Copy(), ofSizes)
	plays(t, c, ofSizes)
}

// P17.5: what is told is new memory, spare room too
func TestToldIsNew(t *testing.T) {
	spoil := func(l []int) {
		for i := range l[:cap(l)] {
			l[:cap(l)][i] = -7
		}
	}
	for n := range 8 {
		p := pool(t, 20, 20, 5, 5, "")
		for client := range 20 + n {
			p.Ask("g", client, client%2)
			p.Ask("h", 100+client, 0)
		}
		for client := range n {
			p.Give(100+client, 0)
		}
		c := p.Copy()
		d := p.Copy()
		want := c.Late(5)
		spoil(p.Late(5))
		if got, after := full(p), full(c); got != after {
			t.Errorf("there is %q, want %q", got, after)
		}
		reaped := c.Reap(5)
		spoil(p.Reap(5))
		if got, after := full(p), full(c); got != after {
			t.Errorf("there is %q, want %q", got, after)
		}
		if late, idle := d.Late(5), d.Reap(5); list(late) != list(want) || list(idle) != list(reaped) {
			t.Errorf("%v and %v were told, want %v and %v", late, idle, want, reaped)
		}
		sane(t, p)
	}
}

// P17.2: what is kept of a name shares no memory with what was handed in
func TestHandedInTexts(t *testing.T) {
	bytes := []byte("g")
	p := pool(t, 1, 2, 5, 5, "")
	p.Ask(unsafe.String(&bytes[0], 1), 1, 0)
	p.Ask(unsafe.String(&bytes[0], 1), 2, 0)
	bytes[0] = 'x'
	plays(t, p, "count g = 1 0 1\ncount x = 0 0 0\nask x 3 0 = 3 on 2 new\ngive 1 0 = 2 on 1\nleave 2 0 = 1, no\ncount g = 0 0 0\ncount x = 1 0 0")
}

// copyOf is a struct's copy.
func copyOf(p *Pool) *Pool {
	c := *p
	return &c
}

// A nil pool, and those that New did not give
func TestForeign(t *testing.T) {
	p := pool(t, 1, 2, 5, 5, "ask g 1 0 = 1 on 1 new\nask g 2 0 = waits\nask h 3 0 = 3 on 2 new\ngive 3 0 = no")
	before := full(p)
	for _, f := range []*Pool{nil, {}, new(Pool), copyOf(p), copyOf(p.Copy()), {self: p}, {limit: 1, queue: 1, wait: 1, idle: 1}, {groups: p.groups, seats: p.seats, links: p.links}} {
		for _, n := range []int{1, 2, 3, 0, 9, -1, math.MinInt, math.MaxInt} {
			for _, now := range []int{0, 5, 100, -1, 1<<39 + 1, math.MinInt, math.MaxInt} {
				for _, what := range []string{"ask g ", "ask new "} {
					if got := step(t, f, what+list([]int{n, now})); got != "error 12, no" {
						t.Errorf("%s%d %d = %s", what, n, now, got)
					}
				}
				for what, want := range map[string]string{"pin": "no", "give": "no", "lost": "0, no", "leave": "0, no", "holds": "no"} {
					if got := step(t, f, what+" "+list([]int{n, now})); got != want {
						t.Errorf("%s %d %d = %s", what, n, now, got)
					}
				}
			}
			for _, what := range []string{"late ", "reap "} {
				if got := step(t, f, what+strconv.Itoa(n)); got != "" {
					t.Errorf("%s%d = %s", what, n, got)
				}
			}
		}
		for _, group := range []string{"g", "h", "new"} {
			if got := step(t, f, "count "+group); got != "0 0 0" {
				t.Errorf("count %s = %s", group, got)
			}
		}
		if c := f.Copy(); c != nil {
			t.Errorf("Copy = %v", c)
		}
	}
	if got := full(p); got != before {
		t.Errorf("there is %q, was %q", got, before)
	}
	sane(t, p)
}
