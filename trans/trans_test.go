package trans

import (
	"math"
	"slices"
	"strconv"
	"strings"
	"testing"

	"pontoon/api"
	"pontoon/state"
)

// tables makes tables from texts: a name, and keys and values with a = between, as in "t 3=5 4=0".
func tables(texts ...string) []api.Table {
	var s []api.Table
	for _, text := range texts {
		parts := strings.Split(text, " ")
		s = append(s, api.Table{Name: parts[0], Rows: rowsOf(parts[1:]...)})
	}
	return s
}

// rowsOf makes rows from texts, as in "3=5".
func rowsOf(texts ...string) []api.Row {
	var l []api.Row
	for _, text := range texts {
		k, v, _ := strings.Cut(text, "=")
		key, _ := strconv.Atoi(k)
		value, _ := strconv.Atoi(v)
		l = append(l, api.Row{K: key, V: value})
	}
	return l
}

// many is n tables without rows, from t100 on.
func many(n int) []api.Table {
	var s []api.Table
	for i := range n {
		s = append(s, api.Table{Name: "t" + strconv.Itoa(100+i)})
	}
	return s
}

// full is a table with n rows: keys and values 0, 10, 20 and so on.
func full(name string, n int) api.Table {
	table := api.Table{Name: name}
	for i := range n {
		table.Rows = append(table.Rows, api.Row{K: 10 * i, V: 10 * i})
	}
	return table
}

// show is a state as text.
func show(s []api.Table) string {
	var b strings.Builder
	for _, table := range s {
		b.WriteString(strconv.Quote(table.Name))
		for _, r := range table.Rows {
			b.WriteString(" " + strconv.Itoa(r.K) + "=" + strconv.Itoa(r.V))
		}
		b.WriteByte('\n')
	}
	return b.String()
}

// Commands on a table.
func get(table string) api.Cmd { return api.Cmd{Kind: api.Get, Table: table} }
func getOf(table string, k int) api.Cmd {
	return api.Cmd{Kind: api.Get, Table: table, K: k, Keyed: true}
}
func put(table string, k, v int) api.Cmd {
	return api.Cmd{Kind: api.Put, Table: table, K: k, V: v, Keyed: true}
}
func add(table string, k int) api.Cmd {
	return api.Cmd{Kind: api.Add, Table: table, K: k, Keyed: true}
}
func del(table string) api.Cmd { return api.Cmd{Kind: api.Del, Table: table} }
func delOf(table string, k int) api.Cmd {
	return api.Cmd{Kind: api.Del, Table: table, K: k, Keyed: true}
}
func create(table string) api.Cmd { return api.Cmd{Kind: api.New, Table: table} }

// none is a command without a text, as classes have it for which none counts.
var none = api.Cmd{}

// textless is commands without a text.
func textless() []api.Cmd {
	return []api.Cmd{
		{}, {Kind: api.Get}, {Kind: api.New}, {Kind: api.Get, Table: "T"}, {Kind: api.Get, Table: "a b"}, {Kind: api.Get, Table: "where"}, {Kind: api.New, Table: "insert"}, {Kind: api.Get, Table: strings.Repeat("t", 31)},
		{Kind: api.Get, Table: "t", K: 1}, {Kind: api.Get, Table: "t", V: 1}, {Kind: api.Get, Table: "t", K: -1, Keyed: true}, {Kind: api.Get, Table: "t", K: 1000000, Keyed: true},
		{Kind: api.Put, Table: "t"}, {Kind: api.Put, Table: "t", K: 1, V: 1}, {Kind: api.Put, Table: "t", Keyed: true, V: 1000000}, {Kind: api.Put, Table: "t", Keyed: true, V: -1},
		{Kind: api.Add, Table: "t", K: 3}, {Kind: api.Add, Table: "t", V: 1, Keyed: true}, {Kind: api.Del, Table: "t", V: 1}, {Kind: api.New, Table: "n", Keyed: true}, {Kind: api.New, Table: "n", V: 1},
		// Of a Kind that is none of the five.
		{Table: "t"}, {Kind: 6, Table: "t"}, {Kind: -1, Table: "t"}, {Kind: math.MaxInt, Table: "t"}, {Kind: math.MinInt, Table: "t"}, {Kind: 6, Table: "t", K: 3, V: 5, Keyed: true},
	}
}

// foreignClasses is classes that are none.
func foreignClasses() []int {
	return []int{-1, 9, 10, 99, math.MaxInt, math.MinInt}
}

// database is a database in which tables are committed.
func database(t *testing.T, s ...api.Table) *Db {
	t.Helper()
	d, err := New(s)
	if err != api.OK || d == nil {
		t.Fatalf("New of\n%s= %v, %d", show(s), d, err)
	}
	return d
}

// asks checks what a session is told, and its status then.
func asks(t *testing.T, d *Db, id, class int, c api.Cmd, rows []api.Row, err api.Errno, status byte) {
	t.Helper()
	told, e := d.Run(id, class, c)
	if !slices.Equal(told, rows) || e != err {
		t.Errorf("%d asks for %d, %v: %v, %d, want %v, %d", id, class, c, told, e, rows, err)
	}
	if got := d.Status(id); got != status {
		t.Errorf("%d asked for %d, %v: status %q, want %q", id, class, c, got, status)
	}
}

// begins and does check what must go well.
func begins(t *testing.T, d *Db, id int) {
	t.Helper()
	asks(t, d, id, api.Begin, none, nil, api.OK, 'T')
}
func does(t *testing.T, d *Db, id int, c api.Cmd) {
	t.Helper()
	asks(t, d, id, api.Write, c, nil, api.OK, d.Status(id))
}

// fails lets a session's transaction fail.
func fails(t *testing.T, d *Db, id int) {
	t.Helper()
	asks(t, d, id, api.Volatile, none, nil, api.ErrKind, 'E')
}

// commits and rollsBack check what must go well.
func commits(t *testing.T, d *Db, id int) {
	t.Helper()
	asks(t, d, id, api.Commit, none, nil, api.OK, 'I')
}
func rollsBack(t *testing.T, d *Db, id int) {
	t.Helper()
	asks(t, d, id, api.Rollback, none, nil, api.OK, 'I')
}

// committed checks what is committed, and that it is right.
func committed(t *testing.T, d *Db, want ...string) {
	t.Helper()
	if got := d.Committed(); show(got) != show(tables(want...)) || !state.Right(got) {
		t.Errorf("committed is\n%swant\n%s", show(got), show(tables(want...)))
	}
}

// sees checks what a session sees.
func sees(t *testing.T, d *Db, id int, want ...string) {
	t.Helper()
	if got := d.Sees(id); show(got) != show(tables(want...)) {
		t.Errorf("%d sees\n%swant\n%s", id, show(got), show(tables(want...)))
	}
}

// wrote checks the names of a session's own tables.
func wrote(t *testing.T, d *Db, id int, want ...string) {
	t.Helper()
	if got := d.Written(id); !slices.Equal(got, want) {
		t.Errorf("%d wrote %q, want %q", id, got, want)
	}
}

// The numbers that are sessions, at the edges, and those that are none.
func sessions() []int { return []int{0, 1, 2, 500, 999, 1000} }
func noSessions() []int {
	return []int{-1, 1001, -2, 1002, 65536, math.MaxInt, math.MinInt}
}

// everything is a database as text: all that it tells.
func everything(d *Db) string {
	var b strings.Builder
	b.WriteString(show(d.Committed()))
	for id := -1; id <= 1001; id++ {
		if status := d.Status(id); status != 'I' {
			b.WriteString(strconv.Itoa(id) + " is " + string(rune(status)) + " wrote " + strings.Join(d.Written(id), ",") + " sees\n" + show(d.Sees(id)))
		}
	}
	return b.String()
}

// P9.1 to P9.4: the example of the chapter
func TestExample(t *testing.T) {
	d := database(t, tables("t")...)
	begins(t, d, 1)
	does(t, d, 1, put("t", 3, 5))
	sees(t, d, 1, "t 3=5")
	sees(t, d, 2, "t")
	asks(t, d, 2, api.Read, get("t"), nil, api.OK, 'I')
	commits(t, d, 1)
	sees(t, d, 2, "t 3=5")
	asks(t, d, 2, api.Read, get("t"), rowsOf("3=5"), api.OK, 'I')
}

// P9.1: states that are right
func TestNew(t *testing.T) {
	all := many(16)
	for i := range all {
		all[i] = full(all[i].Name, 64)
	}
	for _, s := range [][]api.Table{nil, {}, tables("t"), tables("t 3=5 4=0"), tables("a 0=0", "t 999999=999999", "u"), many(15), many(16), all, {{Name: "A b"}, {Name: strings.Repeat("z", 30)}}} {
		d := database(t, s...)
		if show(d.Committed()) != show(s) {
			t.Errorf("committed is\n%swant\n%s", show(d.Committed()), show(s))
		}
		for id := 0; id <= 1000; id++ {
			if d.Status(id) != 'I' || len(d.Written(id)) != 0 {
				t.Errorf("at first %d is %q, and wrote %q", id, d.Status(id), d.Written(id))
			}
		}
		for _, id := range sessions() {
			if show(d.Sees(id)) != show(s) {
				t.Errorf("at first %d sees\n%swant\n%s", id, show(d.Sees(id)), show(s))
			}
		}
	}
}

// P9.1: states that are not
func TestNewWrong(t *testing.T) {
	for _, s := range [][]api.Table{
		{{}}, tables("b", "a"), tables("a", "a"), tables("a", "b", "b"), tables("a", "A"), {{Name: strings.Repeat("a", 31)}}, {{Name: "a"}, {}},
		tables("t 3=5 3=5"), tables("t 3=5 2=5"), tables("t -1=0"), tables("t 0=-1"), tables("t 1000000=0"), tables("t 0=1000000"), tables("a", "b 2=1 1=1"), {full("t", 65)}, {full("t", 64), full("u", 65)},
		many(17), many(18), make([]api.Table, 17),
	} {
		if d, err := New(s); d != nil || err != api.ErrForm {
			t.Errorf("New of\n%s= %v, %d", show(s), d, err)
		}
	}
}

// P9.2: Begin
func TestBegin(t *testing.T) {
	for _, c := range []api.Cmd{none, put("t", 3, 6), get("z"), {Kind: 6}} {
		d := database(t, tables("t 3=5")...)
		asks(t, d, 1, api.Begin, c, nil, api.OK, 'T')
		wrote(t, d, 1)
		sees(t, d, 1, "t 3=5")
		// In a transaction, with own tables and without, nothing comes of it.
		asks(t, d, 1, api.Begin, c, nil, api.ErrState, 'T')
		does(t, d, 1, put("t", 4, 4))
		asks(t, d, 1, api.Begin, c, nil, api.ErrState, 'T')
		wrote(t, d, 1, "t")
		sees(t, d, 1, "t 3=5 4=4")
		fails(t, d, 1)
		asks(t, d, 1, api.Begin, c, nil, api.ErrState, 'E')
		wrote(t, d, 1, "t")
		committed(t, d, "t 3=5")
		// Another one begins without own tables.
		rollsBack(t, d, 1)
		asks(t, d, 1, api.Begin, c, nil, api.OK, 'T')
		wrote(t, d, 1)
		sees(t, d, 1, "t 3=5")
	}
}

// P9.2: Commit
func TestCommit(t *testing.T) {
	for _, c := range []api.Cmd{none, put("t", 3, 6), get("z"), {Kind: 6}} {
		d := database(t, tables("t 3=5")...)
		asks(t, d, 1, api.Commit, c, nil, api.ErrState, 'I')
		// Without own tables
		begins(t, d, 1)
		asks(t, d, 1, api.Commit, c, nil, api.OK, 'I')
		committed(t, d, "t 3=5")
		asks(t, d, 1, api.Commit, c, nil, api.ErrState, 'I')
		// With some
		begins(t, d, 1)
		does(t, d, 1, put("t", 4, 4))
		does(t, d, 1, create("a"))
		does(t, d, 1, create("z"))
		does(t, d, 1, add("z", 1))
		does(t, d, 1, put("z", 1, 1))
		committed(t, d, "t 3=5")
		asks(t, d, 1, api.Commit, c, nil, api.OK, 'I')
		committed(t, d, "a", "t 3=5 4=4", "z 1=1")
		wrote(t, d, 1)
		// Failed, without own tables and with some
		begins(t, d, 1)
		fails(t, d, 1)
		asks(t, d, 1, api.Commit, c, nil, api.ErrFail, 'I')
		begins(t, d, 1)
		does(t, d, 1, del("t"))
		does(t, d, 1, create("b"))
		fails(t, d, 1)
		asks(t, d, 1, api.Commit, c, nil, api.ErrFail, 'I')
		committed(t, d, "a", "t 3=5 4=4", "z 1=1")
		sees(t, d, 1, "a", "t 3=5 4=4", "z 1=1")
		wrote(t, d, 1)
		asks(t, d, 1, api.Commit, c, nil, api.ErrState, 'I')
	}
}

// P9.2: Rollback
func TestRollback(t *testing.T) {
	for _, c := range []api.Cmd{none, put("t", 3, 6), get("z"), {Kind: 6}} {
		d := database(t, tables("t 3=5")...)
		asks(t, d, 1, api.Rollback, c, nil, api.ErrState, 'I')
		begins(t, d, 1)
		asks(t, d, 1, api.Rollback, c, nil, api.OK, 'I')
		asks(t, d, 1, api.Rollback, c, nil, api.ErrState, 'I')
		for _, failing := range []bool{false, true} {
			begins(t, d, 1)
			does(t, d, 1, del("t"))
			does(t, d, 1, create("n"))
			sees(t, d, 1, "n", "t")
			if failing {
				fails(t, d, 1)
			}
			asks(t, d, 1, api.Rollback, c, nil, api.OK, 'I')
			wrote(t, d, 1)
			sees(t, d, 1, "t 3=5")
			committed(t, d, "t 3=5")
		}
		begins(t, d, 1)
		fails(t, d, 1)
		asks(t, d, 1, api.Rollback, c, nil, api.OK, 'I')
	}
}

// P9.2: a Commit that would make more than MaxTables
func TestCommitFull(t *testing.T) {
	// As many as there may be
	d := database(t, many(14)...)
	begins(t, d, 1)
	does(t, d, 1, create("a"))
	does(t, d, 1, create("z"))
	does(t, d, 1, put("t105", 1, 1))
	commits(t, d, 1)
	if n := len(d.Committed()); n != 16 {
		t.Errorf("%d tables", n)
	}
	// One more: what the others have is left, and nothing of what was written.
	d = database(t, many(15)...)
	begins(t, d, 1)
	begins(t, d, 2)
	does(t, d, 1, create("a"))
	does(t, d, 1, put("t105", 1, 1))
	does(t, d, 1, put("a", 1, 1))
	does(t, d, 2, create("b"))
	does(t, d, 2, put("t107", 7, 7))
	commits(t, d, 2)
	before := show(d.Committed())
	if n := len(d.Sees(1)); n != 17 {
		t.Errorf("%d tables are seen", n)
	}
	asks(t, d, 1, api.Commit, none, nil, api.ErrFull, 'I')
	wrote(t, d, 1)
	if show(d.Committed()) != before || show(d.Sees(1)) != before || !state.Right(d.Committed()) {
		t.Errorf("committed is\n%swant\n%s", show(d.Committed()), before)
	}
	asks(t, d, 1, api.Rollback, none, nil, api.ErrState, 'I')
	// Full, but with no table more
	begins(t, d, 1)
	does(t, d, 1, put("b", 1, 1))
	commits(t, d, 1)
	asks(t, d, 2, api.Read, get("b"), rowsOf("1=1"), api.OK, 'I')
	// Several made the same one, which is one.
	d = database(t, many(15)...)
	for id := range 3 {
		begins(t, d, id)
		does(t, d, id, create("n"))
		does(t, d, id, put("n", id, id))
	}
	for id := range 3 {
		commits(t, d, id)
		asks(t, d, 9, api.Read, get("n"), []api.Row{{K: id, V: id}}, api.OK, 'I')
	}
	if n := len(d.Committed()); n != 16 {
		t.Errorf("%d tables", n)
	}
	// Failed ones are told that, whatever there is.
	begins(t, d, 1)
	asks(t, d, 1, api.Write, create("o"), nil, api.ErrFull, 'E')
	asks(t, d, 1, api.Commit, none, nil, api.ErrFail, 'I')
}

// P9.2, P9.4: a session that sees more than MaxTables
func TestSeesMany(t *testing.T) {
	d := database(t, many(13)...)
	for id := range 3 {
		begins(t, d, id)
		for _, end := range []string{"a", "b", "c"} {
			does(t, d, id, create("s"+strconv.Itoa(id)+end))
		}
	}
	commits(t, d, 0)
	for id := 1; id < 3; id++ {
		s := d.Sees(id)
		own := "s" + strconv.Itoa(id)
		if len(s) != 19 || s[0].Name != "s0a" || s[3].Name != own+"a" || s[5].Name != own+"c" || s[18].Name != "t112" {
			t.Errorf("%d sees\n%s", id, show(s))
		}
		asks(t, d, id, api.Read, get(own+"b"), nil, api.OK, 'T')
		does(t, d, id, put(own+"b", 1, 1))
		does(t, d, id, put("s0b", 2, 2))
		asks(t, d, id, api.Read, get("s0b"), rowsOf("2=2"), api.OK, 'T')
		asks(t, d, id, api.Read, get("z"), nil, api.ErrNone, 'E')
	}
	asks(t, d, 1, api.Commit, none, nil, api.ErrFail, 'I')
	rollsBack(t, d, 2)
	committed(t, d, "s0a", "s0b", "s0c", "t100", "t101", "t102", "t103", "t104", "t105", "t106", "t107", "t108", "t109", "t110", "t111", "t112")
	// What is there already is told ahead of that there is no room.
	d = database(t, many(15)...)
	begins(t, d, 1)
	does(t, d, 1, create("a"))
	does(t, d, 2, create("b"))
	begins(t, d, 2)
	asks(t, d, 1, api.Unknown, create("b"), nil, api.ErrTwice, 'E')
	asks(t, d, 2, api.Unknown, create("a"), nil, api.ErrFull, 'E')
	d = database(t, many(15)...)
	begins(t, d, 1)
	does(t, d, 1, create("a"))
	does(t, d, 2, create("b"))
	asks(t, d, 1, api.Unknown, create("c"), nil, api.ErrFull, 'E')
}

// P9.2: Empty and State, with a command that counts for nothing
func TestEmptyAndState(t *testing.T) {
	for _, class := range []int{api.Empty, api.State} {
		for _, c := range append(textless(), get("t"), put("t", 3, 6), create("n"), create("t"), get("z"), del("t")) {
			d := database(t, tables("t 3=5")...)
			asks(t, d, 1, class, c, nil, api.OK, 'I')
			begins(t, d, 1)
			asks(t, d, 1, class, c, nil, api.OK, 'T')
			wrote(t, d, 1)
			sees(t, d, 1, "t 3=5")
			does(t, d, 1, put("t", 4, 4))
			asks(t, d, 1, class, c, nil, api.OK, 'T')
			wrote(t, d, 1, "t")
			sees(t, d, 1, "t 3=5 4=4")
			fails(t, d, 1)
			asks(t, d, 1, class, c, nil, api.ErrFail, 'E')
			committed(t, d, "t 3=5")
		}
	}
}

// P9.2: Volatile, and classes that are none, with a command that counts for nothing
func TestNoSuchClass(t *testing.T) {
	for _, class := range append(foreignClasses(), api.Volatile) {
		for _, c := range append(textless(), get("t"), put("t", 3, 6), create("n"), create("t"), get("z"), del("t")) {
			d := database(t, tables("t 3=5")...)
			asks(t, d, 1, class, c, nil, api.ErrKind, 'I')
			begins(t, d, 1)
			begins(t, d, 2)
			does(t, d, 1, put("t", 4, 4))
			asks(t, d, 1, class, c, nil, api.ErrKind, 'E')
			asks(t, d, 1, class, c, nil, api.ErrFail, 'E')
			asks(t, d, 2, class, c, nil, api.ErrKind, 'E')
			rollsBack(t, d, 1)
			asks(t, d, 1, class, c, nil, api.ErrKind, 'I')
			committed(t, d, "t 3=5")
		}
	}
}

// P9.2: commands of an idle session are committed at once
func TestCommandsIdle(t *testing.T) {
	for _, class := range []int{api.Read, api.Write, api.Unknown} {
		for _, id := range sessions() {
			d := database(t, tables("t 3=5 4=9")...)
			ask := func(c api.Cmd, rows []api.Row, want ...string) {
				t.Helper()
				asks(t, d, id, class, c, rows, api.OK, 'I')
				committed(t, d, want...)
				sees(t, d, id, want...)
				sees(t, d, 77, want...)
				wrote(t, d, id)
			}
			ask(get("t"), rowsOf("3=5", "4=9"), "t 3=5 4=9")
			ask(getOf("t", 4), rowsOf("4=9"), "t 3=5 4=9")
			ask(getOf("t", 5), nil, "t 3=5 4=9")
			ask(put("t", 1, 0), nil, "t 1=0 3=5 4=9")
			ask(put("t", 3, 6), nil, "t 1=0 3=6 4=9")
			ask(put("t", 3, 6), nil, "t 1=0 3=6 4=9")
			ask(add("t", 4), nil, "t 1=0 3=6 4=10")
			ask(add("t", 5), nil, "t 1=0 3=6 4=10")
			ask(delOf("t", 3), nil, "t 1=0 4=10")
			ask(delOf("t", 3), nil, "t 1=0 4=10")
			ask(create("u"), nil, "t 1=0 4=10", "u")
			ask(create("a"), nil, "a", "t 1=0 4=10", "u")
			ask(put("a", 7, 7), nil, "a 7=7", "t 1=0 4=10", "u")
			ask(del("t"), nil, "a 7=7", "t", "u")
			ask(get("t"), nil, "a 7=7", "t", "u")
			ask(get("a"), rowsOf("7=7"), "a 7=7", "t", "u")
		}
	}
}

// P9.2: what a command changes in a transaction is the session's own
func TestCommandsInside(t *testing.T) {
	for _, class := range []int{api.Read, api.Write, api.Unknown} {
		for _, id := range sessions() {
			d := database(t, tables("t 3=5 4=9", "v 2=2")...)
			begins(t, d, id)
			var names []string
			ask := func(c api.Cmd, rows []api.Row, want ...string) {
				t.Helper()
				asks(t, d, id, class, c, rows, api.OK, 'T')
				committed(t, d, "t 3=5 4=9", "v 2=2")
				sees(t, d, id, want...)
				sees(t, d, 77, "t 3=5 4=9", "v 2=2")
				wrote(t, d, id, names...)
				wrote(t, d, 77)
			}
			// Get makes no own table.
			ask(get("t"), rowsOf("3=5", "4=9"), "t 3=5 4=9", "v 2=2")
			ask(getOf("t", 4), rowsOf("4=9"), "t 3=5 4=9", "v 2=2")
			ask(getOf("v", 5), nil, "t 3=5 4=9", "v 2=2")
			names = []string{"t"}
			ask(put("t", 1, 0), nil, "t 1=0 3=5 4=9", "v 2=2")
			ask(put("t", 3, 6), nil, "t 1=0 3=6 4=9", "v 2=2")
			ask(add("t", 4), nil, "t 1=0 3=6 4=10", "v 2=2")
			ask(delOf("t", 3), nil, "t 1=0 4=10", "v 2=2")
			ask(get("v"), rowsOf("2=2"), "t 1=0 4=10", "v 2=2")
			names = []string{"t", "u"}
			ask(create("u"), nil, "t 1=0 4=10", "u", "v 2=2")
			names = []string{"a", "t", "u"}
			ask(create("a"), nil, "a", "t 1=0 4=10", "u", "v 2=2")
			ask(put("a", 7, 7), nil, "a 7=7", "t 1=0 4=10", "u", "v 2=2")
			ask(get("a"), rowsOf("7=7"), "a 7=7", "t 1=0 4=10", "u", "v 2=2")
			ask(del("t"), nil, "a 7=7", "t", "u", "v 2=2")
			ask(get("t"), nil, "a 7=7", "t", "u", "v 2=2")
			asks(t, d, id, api.Commit, none, nil, api.OK, 'I')
			committed(t, d, "a 7=7", "t", "u", "v 2=2")
			sees(t, d, 77, "a 7=7", "t", "u", "v 2=2")
			wrote(t, d, id)
		}
	}
}

// P9.2: each command that is no Get makes an own table, also where nothing changes
func TestOwnUnchanged(t *testing.T) {
	for _, c := range []api.Cmd{put("t", 3, 5), add("t", 4), delOf("t", 4), del("u"), add("u", 0), delOf("u", 0)} {
		d := database(t, tables("t 3=5", "u")...)
		begins(t, d, 1)
		does(t, d, 1, c)
		wrote(t, d, 1, c.Table)
		sees(t, d, 1, "t 3=5", "u")
		// It stays as it is for the session, whatever others write.
		does(t, d, 2, put(c.Table, 9, 9))
		sees(t, d, 1, "t 3=5", "u")
		commits(t, d, 1)
		committed(t, d, "t 3=5", "u")
	}
}

// P9.2: a command without a text
func TestNoText(t *testing.T) {
	for _, c := range textless() {
		if state.Text(c) != "" {
			t.Fatalf("%v has a text", c)
		}
		for _, class := range []int{api.Read, api.Write, api.Unknown} {
			d := database(t, tables("t 3=5")...)
			asks(t, d, 1, class, c, nil, api.ErrArg, 'I')
			begins(t, d, 1)
			asks(t, d, 1, class, c, nil, api.ErrArg, 'T')
			wrote(t, d, 1)
			does(t, d, 1, put("t", 4, 4))
			asks(t, d, 1, class, c, nil, api.ErrArg, 'T')
			wrote(t, d, 1, "t")
			sees(t, d, 1, "t 3=5 4=4")
			fails(t, d, 1)
			asks(t, d, 1, class, c, nil, api.ErrFail, 'E')
			committed(t, d, "t 3=5")
		}
	}
}

// P9.2: each error of a command, idle and in a transaction
func TestCommandErrors(t *testing.T) {
	s := append(many(14), full("x", 64), tables("y 3=999999 4=5")[0])
	for _, f := range []struct {
		c   api.Cmd
		err api.Errno
	}{
		{get("z"), api.ErrNone}, {getOf("z", 1), api.ErrNone}, {put("z", 1, 1), api.ErrNone}, {add("z", 1), api.ErrNone}, {del("z"), api.ErrNone}, {delOf("z", 1), api.ErrNone},
		{create("x"), api.ErrTwice}, {create("t100"), api.ErrTwice}, {create("z"), api.ErrFull}, {create("a"), api.ErrFull}, {put("x", 5, 5), api.ErrFull}, {add("y", 3), api.ErrBig},
	} {
		for _, class := range []int{api.Read, api.Write, api.Unknown} {
			d := database(t, s...)
			asks(t, d, 1, class, f.c, nil, f.err, 'I')
			if show(d.Committed()) != show(s) || len(d.Written(1)) != 0 {
				t.Errorf("%v: committed is\n%s", f.c, show(d.Committed()))
			}
			for _, id := range []int{1, 2} {
				begins(t, d, id)
				does(t, d, id, put("y", 5, id))
			}
			seen := show(d.Sees(1))
			asks(t, d, 1, class, f.c, nil, f.err, 'E')
			// The error is told once; what it had written is its own till it ends.
			asks(t, d, 1, class, f.c, nil, api.ErrFail, 'E')
			asks(t, d, 1, class, get("y"), nil, api.ErrFail, 'E')
			asks(t, d, 1, class, put("y", 6, 6), nil, api.ErrFail, 'E')
			wrote(t, d, 1, "y")
			if show(d.Sees(1)) != seen {
				t.Errorf("%v: 1 sees\n%s", f.c, show(d.Sees(1)))
			}
			asks(t, d, 1, api.Commit, none, nil, api.ErrFail, 'I')
			if show(d.Committed()) != show(s) {
				t.Errorf("%v: committed is\n%s", f.c, show(d.Committed()))
			}
			// The others have not failed.
			asks(t, d, 2, api.Read, getOf("y", 5), rowsOf("5=2"), api.OK, 'T')
			commits(t, d, 2)
		}
	}
}

// P9.2, P9.5: transactions that lie side by side
func TestSideBySide(t *testing.T) {
	d := database(t, tables("a", "t 1=1")...)
	for id := range 3 {
		begins(t, d, id)
	}
	does(t, d, 0, put("t", 10, 0))
	does(t, d, 1, put("t", 11, 1))
	does(t, d, 2, put("a", 12, 2))
	sees(t, d, 0, "a", "t 1=1 10=0")
	sees(t, d, 1, "a", "t 1=1 11=1")
	sees(t, d, 2, "a 12=2", "t 1=1")
	sees(t, d, 3, "a", "t 1=1")
	commits(t, d, 0)
	// What is committed is seen but where there is an own table.
	sees(t, d, 1, "a", "t 1=1 11=1")
	sees(t, d, 2, "a 12=2", "t 1=1 10=0")
	sees(t, d, 3, "a", "t 1=1 10=0")
	commits(t, d, 2)
	sees(t, d, 1, "a 12=2", "t 1=1 11=1")
	committed(t, d, "a 12=2", "t 1=1 10=0")
	// Both wrote t: the one that commits last has it whole.
	commits(t, d, 1)
	committed(t, d, "a 12=2", "t 1=1 11=1")
	// An idle one writes what is another's own.
	begins(t, d, 1)
	does(t, d, 1, del("t"))
	does(t, d, 2, put("t", 5, 5))
	sees(t, d, 1, "a 12=2", "t")
	committed(t, d, "a 12=2", "t 1=1 5=5 11=1")
	fails(t, d, 1)
	does(t, d, 2, put("a", 0, 0))
	sees(t, d, 1, "a 0=0 12=2", "t")
	rollsBack(t, d, 1)
	sees(t, d, 1, "a 0=0 12=2", "t 1=1 5=5 11=1")
}

// P9.2, P9.5: a table made in a transaction
func TestMadeInside(t *testing.T) {
	d := database(t, tables("t")...)
	begins(t, d, 1)
	does(t, d, 1, create("n"))
	does(t, d, 1, put("n", 1, 1))
	asks(t, d, 2, api.Read, get("n"), nil, api.ErrNone, 'I')
	asks(t, d, 1, api.Read, get("n"), rowsOf("1=1"), api.OK, 'T')
	// Another one may make it, too.
	begins(t, d, 2)
	does(t, d, 2, create("n"))
	does(t, d, 2, put("n", 2, 2))
	commits(t, d, 1)
	committed(t, d, "n 1=1", "t")
	sees(t, d, 2, "n 2=2", "t")
	commits(t, d, 2)
	committed(t, d, "n 2=2", "t")
	// Rolled back it is none, and can be made again.
	begins(t, d, 1)
	does(t, d, 1, create("o"))
	asks(t, d, 1, api.Write, create("o"), nil, api.ErrTwice, 'E')
	rollsBack(t, d, 1)
	asks(t, d, 1, api.Read, get("o"), nil, api.ErrNone, 'I')
	does(t, d, 1, create("o"))
	committed(t, d, "n 2=2", "o", "t")
	// Made by an idle one meanwhile
	begins(t, d, 1)
	does(t, d, 2, create("p"))
	asks(t, d, 1, api.Write, create("p"), nil, api.ErrTwice, 'E')
}

// P9.2: numbers that are no sessions'
func TestRunNoSession(t *testing.T) {
	d := database(t, tables("t 3=5")...)
	begins(t, d, 0)
	does(t, d, 0, put("t", 4, 4))
	begins(t, d, 1000)
	fails(t, d, 1000)
	before := everything(d)
	for _, id := range noSessions() {
		for class := -1; class < 12; class++ {
			for _, c := range []api.Cmd{none, get("t"), put("t", 3, 6), create("n"), get("z"), {Kind: 6, Table: "t"}} {
				asks(t, d, id, class, c, nil, api.ErrArg, 0)
			}
		}
	}
	if everything(d) != before {
		t.Errorf("%sbecame\n%s", before, everything(d))
	}
}

// P9.3: Status, which is each session's own
func TestStatus(t *testing.T) {
	d := database(t, tables("t")...)
	for _, id := range sessions() {
		begins(t, d, id)
		for other := -1; other <= 1001; other++ {
			want := byte('I')
			switch {
			case other < 0 || other > 1000:
				want = 0
			case other == id:
				want = 'T'
			}
			if got := d.Status(other); got != want {
				t.Errorf("%d began: %d is %q", id, other, got)
			}
		}
		fails(t, d, id)
		rollsBack(t, d, id)
	}
	for _, id := range noSessions() {
		if got := d.Status(id); got != 0 {
			t.Errorf("%d is %q", id, got)
		}
	}
}

// P9.3: End
func TestEnd(t *testing.T) {
	for _, id := range sessions() {
		d := database(t, tables("t 3=5")...)
		end := func(class string) {
			t.Helper()
			d.End(id)
			if got := d.Status(id); got != 'I' {
				t.Errorf("end of %d, %s: it is %q", id, class, got)
			}
			wrote(t, d, id)
			sees(t, d, id, "t 3=5")
			committed(t, d, "t 3=5")
		}
		end("idle")
		begins(t, d, id)
		end("in a transaction")
		begins(t, d, id)
		does(t, d, id, put("t", 4, 4))
		does(t, d, id, create("n"))
		end("in a transaction with own tables")
		begins(t, d, id)
		fails(t, d, id)
		end("failed")
		begins(t, d, id)
		does(t, d, id, del("t"))
		fails(t, d, id)
		end("failed with own tables")
		end("idle again")
		// Others go on.
		begins(t, d, 7)
		does(t, d, 7, put("t", 7, 7))
		end("another one is in a transaction")
		for _, other := range noSessions() {
			d.End(other)
		}
		sees(t, d, 7, "t 3=5 7=7")
		commits(t, d, 7)
	}
}

// P9.3: End of an id that is none
func TestEndNoSession(t *testing.T) {
	d := database(t, tables("t 3=5")...)
	for _, id := range sessions() {
		begins(t, d, id)
		does(t, d, id, put("t", id, id))
	}
	before := everything(d)
	for _, id := range noSessions() {
		d.End(id)
	}
	if everything(d) != before {
		t.Errorf("%sbecame\n%s", before, everything(d))
	}
}

// P9.4: Sees and Written of an id that is none
func TestSeesNoSession(t *testing.T) {
	d := database(t, tables("t 3=5")...)
	for _, id := range sessions() {
		begins(t, d, id)
		does(t, d, id, put("t", 4, 4))
		does(t, d, id, create("n"))
	}
	for _, id := range noSessions() {
		sees(t, d, id, "t 3=5")
		wrote(t, d, id)
	}
	commits(t, d, 1)
	for _, id := range noSessions() {
		sees(t, d, id, "n", "t 3=5 4=4")
		wrote(t, d, id)
	}
}

// P9.4: the names of own tables rise byte by byte
func TestWrittenRises(t *testing.T) {
	names := []string{"t2", "b", "t10", "_z", "aa", "t1", "a", "z", "é", "ab", "a_", "a1"}
	want := []string{"_z", "a", "a1", "a_", "aa", "ab", "b", "t1", "t10", "t2", "z", "é"}
	// Each time the map may be gone over in another order.
	for range 20 {
		d := database(t, tables("m 1=1")...)
		begins(t, d, 1)
		for _, name := range names {
			does(t, d, 1, create(name))
		}
		wrote(t, d, 1, want...)
		sees(t, d, 1, "_z", "a", "a1", "a_", "aa", "ab", "b", "m 1=1", "t1", "t10", "t2", "z", "é")
		commits(t, d, 1)
		committed(t, d, "_z", "a", "a1", "a_", "aa", "ab", "b", "m 1=1", "t1", "t10", "t2", "z", "é")
	}
}

// P9.4: a copy goes its own way, with its transactions and own tables
func TestCopy(t *testing.T) {
	d := database(t, tables("t 3=5")...)
	begins(t, d, 1)
	does(t, d, 1, put("t", 1, 1))
	begins(t, d, 2)
	does(t, d, 2, create("n"))
	fails(t, d, 2)
	begins(t, d, 3)
	before := everything(d)
	c := d.Copy()
	if c == nil || c == d || everything(c) != before || everything(d) != before {
		t.Fatalf("a copy of\n%sis\n%s", before, everything(c))
	}
	change := func(d *Db) {
		t.Helper()
		does(t, d, 1, put("t", 7, 7))
		does(t, d, 1, add("t", 1))
		does(t, d, 1, create("a"))
		fails(t, d, 1)
		rollsBack(t, d, 2)
		does(t, d, 3, del("t"))
		commits(t, d, 3)
		begins(t, d, 4)
		does(t, d, 4, put("t", 8, 8))
		does(t, d, 5, create("b"))
		does(t, d, 5, put("t", 9, 9))
		does(t, d, 5, put("b", 9, 9))
		sees(t, d, 1, "a", "b 9=9", "t 1=2 3=5 7=7")
		committed(t, d, "b 9=9", "t 9=9")
	}
	change(c)
	if everything(d) != before {
		t.Errorf("what was copied became\n%s", everything(d))
	}
	then := everything(c)
	again := d.Copy()
	change(d)
	if everything(c) != then || everything(again) != before || everything(d) != then {
		t.Errorf("%s\n%s\n%s", everything(c), everything(again), everything(d))
	}
	// A copy of a copy
	last := again.Copy()
	again.End(1)
	commits(t, last, 1)
	committed(t, last, "t 1=1 3=5")
	committed(t, again, "t 3=5")
}

// spoil writes over a state, its rows, and the room behind all lists.
func spoil(s []api.Table) {
	s = s[:cap(s)]
	for i := range s {
		spoilRows(s[i].Rows)
		s[i] = api.Table{Name: "spoilt", Rows: []api.Row{{K: -1, V: -1}}}
	}
}

// spoilRows writes over rows, and the room behind them.
func spoilRows(rows []api.Row) {
	rows = rows[:cap(rows)]
	for i := range rows {
		rows[i] = api.Row{K: -7, V: -7}
	}
}

// R4: the state that is handed in stays as it was, and is not kept
func TestHandedInStays(t *testing.T) {
	rows := rowsOf("3=5", "4=6", "77=77")
	all := []api.Table{{Name: "a"}, {Name: "t", Rows: rows[:2]}, {Name: "x"}}
	d := database(t, all[:2]...)
	does(t, d, 1, put("t", 5, 5))
	does(t, d, 1, add("t", 3))
	does(t, d, 1, create("b"))
	begins(t, d, 1)
	does(t, d, 1, del("t"))
	commits(t, d, 1)
	if show(all) != show(tables("a", "t 3=5 4=6", "x")) || !slices.Equal(rows, rowsOf("3=5", "4=6", "77=77")) {
		t.Errorf("what was handed in became\n%s%v", show(all), rows)
	}
	d = database(t, all[:2]...)
	spoil(all)
	committed(t, d, "a", "t 3=5 4=6")
}

// R4: what is told goes its own way
func TestToldIsNew(t *testing.T) {
	d := database(t, tables("a 1=1", "t 3=5 4=6")...)
	begins(t, d, 1)
	does(t, d, 1, put("t", 5, 7))
	does(t, d, 1, create("n"))
	begins(t, d, 2)
	before := everything(d)
	same := func(what string) {
		t.Helper()
		if everything(d) != before {
			t.Fatalf("%s made\n%s", what, everything(d))
		}
	}
	for _, id := range []int{-1, 0, 1, 2} {
		spoil(d.Sees(id))
		same("spoiling what is seen")
		spoil(append(d.Sees(id), api.Table{}))
		same("appending to what is seen")
		names := d.Written(id)
		names = names[:cap(names)]
		for i := range names {
			names[i] = "spoilt"
		}
		same("spoiling names")
		for _, c := range []api.Cmd{get("a"), get("t"), getOf("t", 4)} {
			told, _ := d.Run(id, api.Read, c)
			spoilRows(append(told, api.Row{}))
			spoilRows(told)
			same("spoiling rows")
		}
	}
	spoil(d.Committed())
	spoil(append(d.Committed(), api.Table{}))
	same("spoiling what is committed")
	// No two lists of one answer share anything.
	for at := range 3 {
		s := d.Sees(1)
		spoilRows(append(s[at].Rows, api.Row{}))
		spoilRows(s[at].Rows)
		for i, table := range d.Sees(1) {
			if i != at && !slices.Equal(s[i].Rows, table.Rows) {
				t.Errorf("table %d shares with %d", at, i)
			}
		}
	}
	// What was told stays as it was.
	seen, all := d.Sees(1), d.Committed()
	seenBefore, allBefore := show(seen), show(all)
	told, _ := d.Run(1, api.Read, get("t"))
	does(t, d, 1, add("t", 3))
	does(t, d, 1, delOf("t", 4))
	commits(t, d, 1)
	does(t, d, 1, put("a", 1, 2))
	if show(seen) != seenBefore || show(all) != allBefore || !slices.Equal(told, rowsOf("3=5", "4=6", "5=7")) {
		t.Errorf("what was told became\n%s%s%v", show(seen), show(all), told)
	}
}

// A nil database, and those that New did not give
func TestForeign(t *testing.T) {
	d := database(t, tables("t 3=5")...)
	begins(t, d, 1)
	does(t, d, 1, put("t", 4, 4))
	before := everything(d)
	structCopy := *d
	for i, f := range []*Db{nil, {}, new(Db), &structCopy} {
		for _, id := range append(noSessions(), sessions()...) {
			for _, class := range append(foreignClasses(), 0, 1, 2, 3, 4, 5, 6, 7, 8) {
				for _, c := range append(textless(), get("t"), put("t", 3, 6), create("n")) {
					if rows, err := f.Run(id, class, c); len(rows) != 0 || err != api.ErrNil {
						t.Fatalf("%d: Run(%d, %d, %v) = %v, %d", i, id, class, c, rows, err)
					}
				}
			}
			f.End(id)
			if f.Status(id) != 0 || len(f.Sees(id)) != 0 || len(f.Written(id)) != 0 {
				t.Errorf("%d: %d is %q, sees %v, wrote %q", i, id, f.Status(id), f.Sees(id), f.Written(id))
			}
		}
		if len(f.Committed()) != 0 || f.Copy() != nil {
			t.Errorf("%d: %v, %v", i, f.Committed(), f.Copy())
		}
	}
	if everything(d) != before {
		t.Errorf("%sbecame\n%s", before, everything(d))
	}
}
