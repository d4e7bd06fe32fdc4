package pool

import (
	"cmp"
	"math"
	"math/rand"
	"slices"
	"strconv"
	"sync"
	"testing"

	"pontoon/api"
)

// model is a pool, as the promises tell of it: all connections that ever were, in order, and all who wait, in the order in which they came.
type model struct {
	limit, queue, wait, idle int
	conns                    []conn
	line                     []waiter
}

// conn is a connection.
type conn struct {
	group        string
	client       int // -1, while it is idle
	since        int
	pinned, gone bool
}

// waiter is somebody who waits.
type waiter struct {
	group         string
	client, until int
}

// holds is the connection that a client holds; 0, if it holds none.
func (m *model) holds(client int) int {
	for i, c := range m.conns {
		if client >= 0 && c.client == client && !c.gone {
			return i + 1
		}
	}
	return 0
}

// waits tells whether a client stands in a line.
func (m *model) waits(client int) bool {
	return slices.ContainsFunc(m.line, func(w waiter) bool { return w.client == client })
}

// count is what Count tells.
func (m *model) count(group string) (int, int, int) {
	conns, idle, waiting := 0, 0, 0
	for _, c := range m.conns {
		if c.group == group && !c.gone {
			conns++
			if c.client < 0 {
				idle++
			}
		}
	}
	for _, w := range m.line {
		if w.group == group {
			waiting++
		}
	}
	return conns, idle, waiting
}

// open lends a new connection.
func (m *model) open(group string, client int) Loan {
	m.conns = append(m.conns, conn{group: group, client: client})
	return Loan{client, len(m.conns), true}
}

// ask is what Ask tells.
func (m *model) ask(group string, client, now int) (Loan, bool, api.Errno) {
	if client < 0 || now < 0 || now > 1<<39 {
		return Loan{}, false, api.ErrArg
	}
	if m.holds(client) > 0 || m.waits(client) {
		return Loan{}, false, api.ErrState
	}
	conns, idle, waiting := m.count(group)
	switch {
	case idle > 0 && waiting == 0:
		best := -1
		for i, c := range m.conns {
			if c.group == group && !c.gone && c.client < 0 && (best < 0 || c.since >= m.conns[best].since) {
				best = i
			}
		}
		m.conns[best].client = client
		return Loan{client, best + 1, false}, true, api.OK
	case conns < m.limit && waiting == 0:
		return m.open(group, client), true, api.OK
	case waiting == m.queue:
		return Loan{}, false, api.ErrFull
	}
	m.line = append(m.line, waiter{group, client, now + m.wait})
	return Loan{}, false, api.OK
}

// first is the first one of a group's line, who leaves it.
func (m *model) first(group string) (int, bool) {
	at := slices.IndexFunc(m.line, func(w waiter) bool { return w.group == group })
	if at < 0 {
		return 0, false
	}
	client := m.line[at].client
	m.line = slices.Delete(m.line, at, at+1)
	return client, true
}

// pin is what Pin tells.
func (m *model) pin(client int) bool {
	n := m.holds(client)
	if n > 0 {
		m.conns[n-1].pinned = true
	}
	return n > 0
}

// give is what Give tells.
func (m *model) give(client, now int) (Loan, bool) {
	n := m.holds(client)
	if n == 0 || m.conns[n-1].pinned {
		return Loan{}, false
	}
	c := &m.conns[n-1]
	next, ok := m.first(c.group)
	if ok {
		c.client = next
		return Loan{next, n, false}, true
	}
	c.client, c.since = -1, now
	return Loan{}, false
}

// lost is what Lost tells.
func (m *model) lost(n int) (int, Loan, bool) {
	if n < 1 || n > len(m.conns) || m.conns[n-1].gone {
		return -1, Loan{}, false
	}
	m.conns[n-1].gone = true
	c := m.conns[n-1]
	next, ok := m.first(c.group)
	if ok {
		return c.client, m.open(c.group, next), true
	}
	return c.client, Loan{}, false
}

// leave is what Leave tells.
func (m *model) leave(client int) (int, Loan, bool) {
	m.line = slices.DeleteFunc(m.line, func(w waiter) bool { return w.client == client })
	n := m.holds(client)
	if n == 0 {
		return 0, Loan{}, false
	}
	_, l, ok := m.lost(n)
	return n, l, ok
}

// late is what Late tells.
func (m *model) late(now int) []int {
	var gone []waiter
	m.line = slices.DeleteFunc(m.line, func(w waiter) bool {
		if w.until <= now {
			gone = append(gone, w)
		}
		return w.until <= now
	})
	slices.SortStableFunc(gone, func(a, b waiter) int { return cmp.Compare(a.group, b.group) })
	var l []int
	for _, w := range gone {
		l = append(l, w.client)
	}
	return l
}

// reap is what Reap tells.
func (m *model) reap(now int) []int {
	var l []int
	for i := range m.conns {
		if c := &m.conns[i]; !c.gone && c.client < 0 && c.since <= now-m.idle {
			c.gone = true
			l = append(l, i+1)
		}
	}
	return l
}

// copied is one of its own.
func (m *model) copied() *model {
	c := *m
	c.conns, c.line = slices.Clone(m.conns), slices.Clone(m.line)
	return &c
}

// tally counts what was met, so that it is seen that the edges were.
type tally map[string]int

// pair is a pool with its model.
type pair struct {
	p   *Pool
	m   *model
	met tally
}

// lawGroups is the groups of the walks.
var lawGroups = []string{"b", "", "\xff", "a\x00", "a"}

// same compares what was told.
func (w pair) same(t *testing.T, what, got, want string) {
	t.Helper()
	if got != want {
		t.Fatalf("%s = %s, want %s", what, got, want)
	}
}

// moment is a time, as a rule one of few.
func moment(r *rand.Rand) int {
	if r.Intn(25) == 0 {
		return []int{-1, 1 << 39, 1<<39 + 1, 1 << 40, math.MaxInt}[r.Intn(5)]
	}
	return r.Intn(14)
}

// kind is how a loan is told, in short.
func kind(l Loan, ok bool) string {
	if !ok {
		return "no"
	}
	if l.Fresh {
		return "new"
	}
	return "old"
}

// ask lets a client ask, and compares.
func (w pair) ask(t *testing.T, group string, client, now int) {
	t.Helper()
	_, idle, _ := w.m.count(group)
	got := told(w.p.Ask(group, client, now))
	l, ok, err := w.m.ask(group, client, now)
	w.same(t, "Ask", got, told(l, ok, err))
	w.met["ask "+kind(l, ok)+" "+strconv.Itoa(int(err))+" "+strconv.Itoa(min(idle, 2))]++
}

// lose lets a connection, or a client, go, and compares.
func (w pair) lose(t *testing.T, r *rand.Rand, client, now int) {
	t.Helper()
	n := w.m.holds(client)
	if r.Intn(2) == 0 {
		was := strconv.FormatBool(w.m.waits(client))
		got := step(t, w.p, "leave "+list([]int{client, now}))
		conn, l, ok := w.m.leave(client)
		w.same(t, "Leave", got, strconv.Itoa(conn)+", "+lent(l, ok))
		w.met["leave "+strconv.Itoa(min(conn, 1))+" "+was+" "+kind(l, ok)]++
		return
	}
	if r.Intn(2) == 0 {
		n = max(0, len(w.m.conns)+1-r.Intn(12))
	}
	got := step(t, w.p, "lost "+list([]int{n, now}))
	who, l, ok := w.m.lost(n)
	w.same(t, "Lost", got, strconv.Itoa(who)+", "+lent(l, ok))
	w.met["lost "+strconv.Itoa(min(who, 0))+" "+kind(l, ok)]++
}

// step lets something happen to a pool and its model, and compares what both tell.
func (w pair) step(t *testing.T, r *rand.Rand, clients, much int) {
	t.Helper()
	client, now := r.Intn(clients)-1, moment(r)
	group := lawGroups[r.Intn(len(lawGroups))%much]
	switch n := r.Intn(26); {
	case n < 10:
		w.ask(t, group, client, now)
	case n < 11:
		ok := w.m.pin(client)
		w.same(t, "Pin", yes(w.p.Pin(client)), yes(ok))
		w.met["pin "+yes(ok)]++
	case n < 18:
		pinned := w.m.holds(client) > 0 && w.m.conns[w.m.holds(client)-1].pinned
		got := lent(w.p.Give(client, now))
		l, ok := w.m.give(client, now)
		w.same(t, "Give", got, lent(l, ok))
		w.met["give "+yes(pinned)+" "+kind(l, ok)]++
	case n < 21:
		w.lose(t, r, client, now)
	case n < 23:
		now = min(now, r.Intn(20))
		got, l := list(w.p.Late(now)), w.m.late(now)
		w.same(t, "Late", got, list(l))
		w.met["late "+strconv.Itoa(min(len(l), 3))]++
	default:
		got, l := list(w.p.Reap(now)), w.m.reap(now)
		w.same(t, "Reap", got, list(l))
		w.met["reap "+strconv.Itoa(min(len(l), 3))]++
	}
}

// agrees asks whether a pool tells what its model does.
func (w pair) agrees(t *testing.T, clients int) {
	t.Helper()
	for _, group := range append(lawGroups, "c") {
		a, b, c := w.m.count(group)
		w.same(t, "Count", step(t, w.p, "count "+strconv.Quote(group)), list([]int{a, b, c}))
	}
	for client := -2; client < clients; client++ {
		want := w.m.holds(client)
		if got, ok := w.p.Holds(client); got != want || ok != (want > 0) {
			t.Fatalf("Holds(%d) = %d, %t, want %d", client, got, ok, want)
		}
	}
	sane(t, w.p)
}

// P17.1 to P17.7: random steps of a pool, and of copies of it, against models
func TestLaws(t *testing.T) {
	r := rand.New(rand.NewSource(177))
	met := tally{}
	for i := range 400 {
		limit, queue, wait, idle := 1+r.Intn(4), 1+r.Intn(3), 1+r.Intn(9), 1+r.Intn(9)
		p, err := New(limit, queue, wait, idle)
		if err != api.OK {
			t.Fatal(err)
		}
		clients := 4 + r.Intn(16)
		all := []pair{{p, &model{limit: limit, queue: queue, wait: wait, idle: idle}, met}}
		for range 150 {
			w := all[r.Intn(len(all))]
			if r.Intn(20) == 0 {
				w = pair{w.p.Copy(), w.m.copied(), met}
				all = append(all[max(0, len(all)-2):], w)
			}
			w.step(t, r, clients, 1+i%5)
			for _, w := range all {
				w.agrees(t, clients)
			}
		}
	}
	for _, what := range []string{
		"ask new 0 0", "ask old 0 1", "ask old 0 2", "ask no 0 0", "ask no 1 0", "ask no 10 0", "ask no 10 2", "ask no 11 0", "pin yes", "pin no",
		"give no no", "give no old", "give yes no", "lost 0 no", "lost 0 new", "lost -1 no", "leave 0 false no", "leave 0 true no", "leave 1 false no", "leave 1 false new",
		"late 0", "late 1", "late 2", "late 3", "reap 0", "reap 1", "reap 2", "reap 3",
	} {
		if met[what] < 20 {
			t.Errorf("only %d of %q", met[what], what)
		}
	}
}

// P17.7: whatever goes on, who waits is served in order
func TestOrder(t *testing.T) {
	p := pool(t, 3, 1000, 5, 5, "")
	var stay []int
	for client := range 1003 {
		p.Ask("g", client, 0)
		if client%7 > 0 {
			stay = append(stay, client)
		}
	}
	for client := 7; client < 1003; client += 7 {
		p.Leave(client, 0)
	}
	// 3 comes in its place: now three of those who stay hold a connection, and the others wait.
	p.Leave(0, 0)
	for i, next := range stay[3:] {
		client := stay[i]
		conn, _ := p.Holds(client)
		var l Loan
		switch i % 3 {
		case 0:
			_, l, _ = p.Leave(client, 9)
		case 1:
			_, l, _ = p.Lost(conn, 9)
		default:
			l, _ = p.Give(client, 9)
		}
		if l.Client != next {
			t.Fatalf("%d was served, want %d", l.Client, next)
		}
	}
	sane(t, p)
	plays(t, p, "count g = 3 0 0")
}

// P17.2 to P17.6: many groups; what is done with one takes no longer than among few
func TestMany(t *testing.T) {
	const n = 1 << 16
	p := pool(t, 2, 2, 5, 5, "")
	for i := range n {
		for client := 3 * i; client < 3*i+3; client++ {
			p.Ask(strconv.Itoa(i), client, 1)
		}
	}
	sane(t, p)
	for i := range n {
		group := strconv.Itoa(i)
		if conn, ok := p.Holds(3*i + 1); conn != 2*i+2 || !ok {
			t.Fatalf("%d holds %d", 3*i+1, conn)
		}
		if a, b, c := p.Count(group); a != 2 || b != 0 || c != 1 {
			t.Fatalf("%q has %d, %d, %d", group, a, b, c)
		}
		switch {
		case i%4 == 0:
			p.Leave(3*i+2, 1)
		case i%2 == 0:
			if l, ok := p.Give(3*i, 1); l != (Loan{3*i + 2, 2*i + 1, false}) || !ok {
				t.Fatalf("%d was lent to %d", l.Conn, l.Client)
			}
		}
	}
	late := p.Late(6)
	if !slices.IsSortedFunc(late, func(a, b int) int { return cmp.Compare(strconv.Itoa(a/3), strconv.Itoa(b/3)) }) || len(late) != n/2 {
		t.Errorf("%d are late", len(late))
	}
	for i := range n {
		p.Give(3*i+1, 2)
	}
	sane(t, p)
	idle := p.Reap(7)
	if !slices.IsSorted(idle) || len(idle) != n {
		t.Errorf("%d were idle", len(idle))
	}
	sane(t, p)
}

// P17.6: a pool and its copies only read what they share, so that they may go on side by side
func TestSideBySide(t *testing.T) {
	p := pool(t, 2, 100, 5, 5, "")
	for client := range 80 {
		p.Ask("g", client, 0)
		p.Ask("h", 100+client, 0)
	}
	p.Give(100, 0)
	pools := []*Pool{p}
	for range 7 {
		pools = append(pools, pools[len(pools)-1].Copy())
	}
	var all sync.WaitGroup
	for i, p := range pools {
		all.Go(func() {
			for client := range 60 {
				p.Give(client, client+i)
				p.Leave(client+10, 0)
				p.Lost(client, 0)
				p.Ask("g", 200+client, i)
				p.Late(client / 8)
				p.Reap(client)
			}
		})
	}
	all.Wait()
	for _, p := range pools {
		sane(t, p)
	}
}
