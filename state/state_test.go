package state

import (
	"maps"
	"math"
	"math/rand"
	"slices"
	"strconv"
	"strings"
	"testing"
	"unsafe"

	"pontoon/api"
)

// state makes tables from texts: a name, and keys and values with a = between, as in "t 3=5 4=0".
func state(tables ...string) []api.Table {
	var s []api.Table
	for _, text := range tables {
		parts := strings.Split(text, " ")
		table := api.Table{Name: parts[0]}
		for _, part := range parts[1:] {
			k, v, _ := strings.Cut(part, "=")
			key, _ := strconv.Atoi(k)
			value, _ := strconv.Atoi(v)
			table.Rows = append(table.Rows, api.Row{K: key, V: value})
		}
		s = append(s, table)
	}
	return s
}

// many is n tables, with rising names.
func many(n int) []api.Table {
	var s []api.Table
	for i := range n {
		s = append(s, api.Table{Name: "t" + strconv.Itoa(100+i)})
	}
	return s
}

// full is a table with n rows: keys 0, 10, 20 and so on, values as many as the keys.
func full(name string, n int) api.Table {
	table := api.Table{Name: name}
	for i := range n {
		table.Rows = append(table.Rows, api.Row{K: 10 * i, V: 10 * i})
	}
	return table
}

// equal tells whether states have the same; what Same says is not asked.
func equal(a, b []api.Table) bool {
	return show(a) == show(b)
}

// show is a state as text.
func show(s []api.Table) string {
	var b strings.Builder
	for _, table := range s {
		b.WriteString(strconv.Quote(table.Name))
		for _, r := range table.Rows {
			b.WriteString(" " + strconv.Itoa(r.K) + "=" + strconv.Itoa(r.V))
		}
		b.WriteByte('\n')
	}
	return b.String()
}

// does asks what a command makes of a state, and whether that stays as it was.
func does(t *testing.T, s []api.Table, c api.Cmd, want []api.Table, rows []api.Row, err api.Errno) {
	t.Helper()
	before := show(s)
	then, told, e := Do(s, c)
	if !equal(then, want) || !slices.Equal(told, rows) || e != err {
		t.Errorf("Do %v on\n%sis\n%s%v, %d, want\n%s%v, %d", c, before, show(then), told, e, show(want), rows, err)
	}
	if show(s) != before {
		t.Errorf("Do %v made\n%sof\n%s", c, show(s), before)
	}
}

// fails asks whether a command answers an error, and a state as it was.
func fails(t *testing.T, s []api.Table, c api.Cmd, err api.Errno) {
	t.Helper()
	does(t, s, c, s, nil, err)
}

// Commands on a table.
func get(table string) api.Cmd { return api.Cmd{Kind: api.Get, Table: table} }
func getOf(table string, k int) api.Cmd {
	return api.Cmd{Kind: api.Get, Table: table, K: k, Keyed: true}
}
func putIn(table string, k, v int) api.Cmd {
	return api.Cmd{Kind: api.Put, Table: table, K: k, V: v, Keyed: true}
}
func addTo(table string, k int) api.Cmd {
	return api.Cmd{Kind: api.Add, Table: table, K: k, Keyed: true}
}
func del(table string) api.Cmd { return api.Cmd{Kind: api.Del, Table: table} }
func delOf(table string, k int) api.Cmd {
	return api.Cmd{Kind: api.Del, Table: table, K: k, Keyed: true}
}
func made(table string) api.Cmd { return api.Cmd{Kind: api.New, Table: table} }

// P8.3: the example of the chapter
func TestExample(t *testing.T) {
	s := state("t")
	s, _, _ = Do(s, putIn("t", 3, 5))
	s, _, _ = Do(s, addTo("t", 3))
	_, rows, e := Do(s, get("t"))
	if !slices.Equal(rows, []api.Row{{K: 3, V: 6}}) || e != api.OK {
		t.Errorf("%v, %d", rows, e)
	}
}

// P8.2: states that are right
func TestRight(t *testing.T) {
	for i, s := range [][]api.Table{
		nil, {}, state("t"), state("t 3=5"), state("t 0=0"), state("t 999999=999999"), state("t 0=999999 999999=0"), state("t 3=9 4=1 5=5"),
		state("a", "b"), state("a", "aa", "b"), state("A", "a"), state("Z", "_", "a", "z", "é"), state("t 1=1", "u", "v 1=1 2=2"), state("t1", "t10", "t2"),
		{{Name: "\x00"}, {Name: "\x00\x00"}, {Name: "\x01"}}, {{Name: "\x7f"}, {Name: "\x80"}, {Name: "\xff"}}, {{Name: "z"}, {Name: "é"}},
		{{Name: " "}, {Name: "A B"}, {Name: "a;b"}, {Name: "select"}}, {{Name: "t", Rows: []api.Row{}}},
		many(1), many(2), many(15), many(16), {full("t", 1)}, {full("t", 63)}, {full("t", 64)}, {full("t", 64), full("u", 64)},
		{{Name: "a"}, {Name: strings.Repeat("a", 29)}, {Name: strings.Repeat("a", 30)}}, {{Name: strings.Repeat("é", 15)}},
	} {
		if !Right(s) {
			t.Errorf("%d: not right:\n%s", i, show(s))
		}
	}
	all := many(16)
	for i := range all {
		all[i] = full(all[i].Name, 64)
	}
	if !Right(all) {
		t.Error("a state with all that it may have is not right")
	}
}

// P8.2: states that are not
func TestNotRight(t *testing.T) {
	for i, s := range [][]api.Table{
		{{}}, state("b", "a"), state("a", "a"), state("a", "b", "b"), state("a", "c", "b"), state("b", "a", "c"), state("a", "b", "a"), state("a", "A"), state("aa", "a"), state("t2", "t10"),
		{{Name: "é"}, {Name: "z"}}, {{Name: "\x80"}, {Name: "\x7f"}}, {{Name: ""}, {Name: "a"}}, {{Name: "a"}, {Name: ""}}, {{Name: "a 1", Rows: nil}, {}},
		many(17), many(18), many(100), make([]api.Table, 16), make([]api.Table, 17), {full("t", 65)}, {full("t", 1000)}, {full("t", 64), full("u", 65)}, {full("t", 65), full("u", 64)},
		state("t 3=5 3=5"), state("t 3=5 3=6"), state("t 3=5 2=5"), state("t 1=1 3=3 2=2"), state("t 2=2 1=1 3=3"), state("t 1=1 2=2 1=1"), state("a", "b 2=1 1=1", "c"), state("a 2=1 1=1", "b"),
		state("t -1=0"), state("t 0=-1"), state("t 1000000=0"), state("t 0=1000000"), state("t 1=1 2=2 1000000=3"), state("t -1=1 2=2 3=3"), state("t 1=1 2=-2 3=3"), state("t 1=1 2=2 3=1000000"),
		{{Name: "t", Rows: []api.Row{{K: math.MaxInt}}}}, {{Name: "t", Rows: []api.Row{{K: math.MinInt}}}}, {{Name: "t", Rows: []api.Row{{V: math.MaxInt}}}}, {{Name: "t", Rows: []api.Row{{V: math.MinInt}}}},
		{{Name: "t", Rows: make([]api.Row, 2)}}, {{Name: "t", Rows: []api.Row{{K: 1 << 32}}}}, {{Name: "t", Rows: []api.Row{{V: 1 << 32}}}},
		{{Name: strings.Repeat("a", 31)}}, {{Name: "a"}, {Name: strings.Repeat("a", 31)}}, {{Name: strings.Repeat("a", 31)}, {Name: "b"}}, {{Name: strings.Repeat("a", 10000)}}, {{Name: strings.Repeat("é", 16)}}, {{Name: "a" + strings.Repeat("é", 15)}},
	} {
		if Right(s) {
			t.Errorf("%d: right:\n%s", i, show(s))
		}
	}
}

// P8.2: each place of a state counts
func TestRightEachPlace(t *testing.T) {
	for i := range 16 {
		for k := range 64 {
			s := many(16)
			s[i] = full(s[i].Name, 64)
			s[i].Rows[k].V = 1000000
			if Right(s) {
				t.Fatalf("table %d, row %d: a value that is too great", i, k)
			}
			s[i].Rows[k].V = 999999
			if !Right(s) {
				t.Fatalf("table %d, row %d: a value that can be", i, k)
			}
			if k > 0 {
				s[i].Rows[k].K = s[i].Rows[k-1].K
				if Right(s) {
					t.Fatalf("table %d, row %d: a key that stands twice", i, k)
				}
				s[i].Rows[k].K++
				if !Right(s) {
					t.Fatalf("table %d, row %d: a key one greater", i, k)
				}
			}
		}
		s := many(16)
		s[i].Name = ""
		if Right(s) {
			t.Fatalf("table %d without a name", i)
		}
		if i > 0 {
			s[i].Name = s[i-1].Name
			if Right(s) {
				t.Fatalf("table %d of the name ahead", i)
			}
			s[i].Name += "\x00"
			if !Right(s) {
				t.Fatalf("table %d of a name behind that ahead", i)
			}
		}
	}
}

// P8.2: Find
func TestFind(t *testing.T) {
	for _, c := range []struct {
		s    []api.Table
		name string
		want int
	}{
		{nil, "t", -1}, {nil, "", -1}, {[]api.Table{}, "t", -1},
		{state("t"), "t", 0}, {state("t"), "T", -1}, {state("t"), "", -1}, {state("t"), "tt", -1}, {state("tt"), "t", -1}, {state("t 1=1"), "t", 0},
		{state("a", "b", "c"), "a", 0}, {state("a", "b", "c"), "b", 1}, {state("a", "b", "c"), "c", 2}, {state("a", "b", "c"), "d", -1}, {state("a", "b", "c"), "", -1}, {state("a", "c"), "b", -1},
		// Of states that are not right, too.
		{state("c", "b", "a"), "a", 2}, {state("c", "b", "a"), "b", 1}, {state("c", "b", "a"), "c", 0}, {state("c", "a", "b"), "c", 0},
		{state("a 1=1", "a 2=2", "a"), "a", 0}, {state("b", "a 1=1", "a 2=2"), "a", 1}, {make([]api.Table, 3), "", 0}, {[]api.Table{{Name: "a"}, {}}, "", 1},
		{many(100), "t100", 0}, {many(100), "t199", 99}, {many(100), "t200", -1}, {[]api.Table{{Name: strings.Repeat("a", 100)}}, strings.Repeat("a", 100), 0},
		{[]api.Table{{Name: "\xff\x00"}}, "\xff\x00", 0}, {[]api.Table{{Name: "a\x00"}}, "a", -1},
	} {
		if got := Find(c.s, c.name); got != c.want {
			t.Errorf("Find %q in\n%s= %d, want %d", c.name, show(c.s), got, c.want)
		}
	}
}

// P8.3: Get
func TestGet(t *testing.T) {
	s := state("a", "t 3=5 4=0 9=3", "u 7=7")
	rows := []api.Row{{K: 3, V: 5}, {K: 4, V: 0}, {K: 9, V: 3}}
	does(t, s, get("t"), s, rows, api.OK)
	does(t, s, get("a"), s, nil, api.OK)
	does(t, s, get("u"), s, []api.Row{{K: 7, V: 7}}, api.OK)
	for i, r := range rows {
		does(t, s, getOf("t", r.K), s, rows[i:i+1], api.OK)
	}
	for _, k := range []int{0, 2, 5, 7, 10, 999999} {
		does(t, s, getOf("t", k), s, nil, api.OK)
		does(t, s, getOf("a", k), s, nil, api.OK)
	}
	does(t, state("t 0=1 5=5"), getOf("t", 0), state("t 0=1 5=5"), []api.Row{{K: 0, V: 1}}, api.OK)
	does(t, state("t 999999=1"), getOf("t", 999999), state("t 999999=1"), []api.Row{{K: 999999, V: 1}}, api.OK)
	s = []api.Table{full("t", 64)}
	does(t, s, get("t"), s, s[0].Rows, api.OK)
}

// P8.3: Put
func TestPut(t *testing.T) {
	does(t, state("t"), putIn("t", 3, 5), state("t 3=5"), nil, api.OK)
	does(t, state("t"), putIn("t", 0, 0), state("t 0=0"), nil, api.OK)
	does(t, state("t"), putIn("t", 999999, 999999), state("t 999999=999999"), nil, api.OK)
	does(t, state("t 3=5"), putIn("t", 3, 6), state("t 3=6"), nil, api.OK)
	does(t, state("t 3=5"), putIn("t", 3, 5), state("t 3=5"), nil, api.OK)
	does(t, state("t 3=5"), putIn("t", 3, 0), state("t 3=0"), nil, api.OK)
	does(t, state("t 3=5"), putIn("t", 2, 7), state("t 2=7 3=5"), nil, api.OK)
	does(t, state("t 3=5"), putIn("t", 4, 7), state("t 3=5 4=7"), nil, api.OK)
	does(t, state("t 3=5 9=1"), putIn("t", 4, 7), state("t 3=5 4=7 9=1"), nil, api.OK)
	does(t, state("a 3=1", "t 3=5", "u 3=2"), putIn("t", 3, 7), state("a 3=1", "t 3=7", "u 3=2"), nil, api.OK)
	does(t, state("a", "t 3=5", "u"), putIn("u", 3, 7), state("a", "t 3=5", "u 3=7"), nil, api.OK)
	does(t, state("a", "t 3=5", "u"), putIn("a", 3, 7), state("a 3=7", "t 3=5", "u"), nil, api.OK)
}

// P8.3: Put into a table that is full, or nearly so
func TestPutFull(t *testing.T) {
	for _, k := range []int{0, 1, 5, 315, 625, 629, 631, 635, 999999} {
		s := []api.Table{full("t", 64), {Name: "u"}}
		if k%10 != 0 {
			fails(t, s, putIn("t", k, 7), api.ErrFull)
		}
		does(t, s, putIn("u", k, 7), []api.Table{s[0], {Name: "u", Rows: []api.Row{{K: k, V: 7}}}}, nil, api.OK)
	}
	for i := range 64 {
		s := []api.Table{full("t", 64)}
		want := []api.Table{full("t", 64)}
		want[0].Rows[i].V = 7
		does(t, s, putIn("t", 10*i, 7), want, nil, api.OK)
		fails(t, s, putIn("t", 10*i+1, 7), api.ErrFull)
		s = []api.Table{full("t", 63)}
		then, _, e := Do(s, putIn("t", 10*i+1, 7))
		if e != api.OK || len(then[0].Rows) != 64 || !Right(then) {
			t.Errorf("%d: %d rows, %d", i, len(then[0].Rows), e)
		}
	}
	does(t, []api.Table{full("t", 63)}, putIn("t", 630, 630), []api.Table{full("t", 64)}, nil, api.OK)
	fails(t, []api.Table{full("t", 64)}, putIn("t", 640, 640), api.ErrFull)
}

// P8.3: Add
func TestAdd(t *testing.T) {
	does(t, state("t 3=5"), addTo("t", 3), state("t 3=6"), nil, api.OK)
	does(t, state("t 3=0"), addTo("t", 3), state("t 3=1"), nil, api.OK)
	does(t, state("t 0=0 1=0"), addTo("t", 0), state("t 0=1 1=0"), nil, api.OK)
	does(t, state("t 3=5 4=5 9=5"), addTo("t", 4), state("t 3=5 4=6 9=5"), nil, api.OK)
	does(t, state("t 3=5 4=5 9=5"), addTo("t", 9), state("t 3=5 4=5 9=6"), nil, api.OK)
	does(t, state("a 3=1", "t 3=5", "u 3=2"), addTo("t", 3), state("a 3=1", "t 3=6", "u 3=2"), nil, api.OK)
	for _, k := range []int{0, 2, 4, 999999} {
		does(t, state("t 3=5"), addTo("t", k), state("t 3=5"), nil, api.OK)
		does(t, state("t"), addTo("t", k), state("t"), nil, api.OK)
		does(t, state("t 3=999999"), addTo("t", k), state("t 3=999999"), nil, api.OK)
	}
	does(t, state("t 3=999998"), addTo("t", 3), state("t 3=999999"), nil, api.OK)
	fails(t, state("t 3=999999"), addTo("t", 3), api.ErrBig)
	fails(t, state("a", "t 0=1 3=999999 4=1", "u"), addTo("t", 3), api.ErrBig)
	does(t, state("t 0=1 3=999999 4=1"), addTo("t", 4), state("t 0=1 3=999999 4=2"), nil, api.OK)
	does(t, []api.Table{full("t", 64)}, addTo("t", 5), []api.Table{full("t", 64)}, nil, api.OK)
}

// P8.3: Del
func TestDel(t *testing.T) {
	s := state("a 3=1", "t 3=5 4=0 9=3", "u 3=2")
	does(t, s, del("t"), state("a 3=1", "t", "u 3=2"), nil, api.OK)
	does(t, s, del("a"), state("a", "t 3=5 4=0 9=3", "u 3=2"), nil, api.OK)
	does(t, s, delOf("t", 3), state("a 3=1", "t 4=0 9=3", "u 3=2"), nil, api.OK)
	does(t, s, delOf("t", 4), state("a 3=1", "t 3=5 9=3", "u 3=2"), nil, api.OK)
	does(t, s, delOf("t", 9), state("a 3=1", "t 3=5 4=0", "u 3=2"), nil, api.OK)
	does(t, s, delOf("u", 3), state("a 3=1", "t 3=5 4=0 9=3", "u"), nil, api.OK)
	for _, k := range []int{0, 2, 5, 10, 999999} {
		does(t, s, delOf("t", k), s, nil, api.OK)
		does(t, state("t"), delOf("t", k), state("t"), nil, api.OK)
	}
	does(t, state("t"), del("t"), state("t"), nil, api.OK)
	does(t, state("t 0=1 5=5"), delOf("t", 0), state("t 5=5"), nil, api.OK)
	does(t, []api.Table{full("t", 64)}, del("t"), state("t"), nil, api.OK)
}

// P8.3: New
func TestNew(t *testing.T) {
	does(t, nil, made("t"), state("t"), nil, api.OK)
	does(t, state("t"), made("a"), state("a", "t"), nil, api.OK)
	does(t, state("t"), made("u"), state("t", "u"), nil, api.OK)
	does(t, state("a 1=1", "t 2=2"), made("b"), state("a 1=1", "b", "t 2=2"), nil, api.OK)
	does(t, state("t1", "t2"), made("t10"), state("t1", "t10", "t2"), nil, api.OK)
	does(t, state("A", "Z"), made("_"), state("A", "Z", "_"), nil, api.OK)
	does(t, state("z"), made("é"), state("z", "é"), nil, api.OK)
	does(t, state("é"), made("z"), state("z", "é"), nil, api.OK)
	fails(t, state("t"), made("t"), api.ErrTwice)
	fails(t, state("a", "t 3=5", "u"), made("t"), api.ErrTwice)
	fails(t, state("a 1=1", "t", "u"), made("a"), api.ErrTwice)
	for _, n := range []int{14, 15} {
		does(t, many(n), made("t"), append(state("t"), many(n)...), nil, api.OK)
		does(t, many(n), made("u"), append(many(n), state("u")...), nil, api.OK)
		fails(t, many(n), made("t101"), api.ErrTwice)
	}
	// More than a state may have, too.
	for _, n := range []int{16, 17, 18, 32} {
		for _, name := range []string{"a", "t", "t1000", "u", "z"} {
			fails(t, many(n), made(name), api.ErrFull)
		}
		fails(t, many(n), made("t100"), api.ErrTwice)
		fails(t, many(n), made("t115"), api.ErrTwice)
	}
}

// P8.3: of a table that is not there, whatever else would go wrong
func TestNoTable(t *testing.T) {
	for _, s := range [][]api.Table{nil, {}, state("t 3=999999"), state("a", "t 3=999999", "v"), {full("t", 64)}, {{Name: "U"}, {Name: "uu"}}, many(16), many(17)} {
		for _, c := range []api.Cmd{get("u"), getOf("u", 3), putIn("u", 3, 5), putIn("u", 5, 5), addTo("u", 3), del("u"), delOf("u", 3)} {
			fails(t, s, c, api.ErrNone)
		}
	}
}

// P8.3: more tables than a state may have
func TestManyTables(t *testing.T) {
	for _, n := range []int{16, 17, 20, 32} {
		for i := range n {
			s := many(n)
			name := s[i].Name
			s[i].Rows = []api.Row{{K: 3, V: 5}}
			want := func(text string) []api.Table {
				w := Copy(s)
				w[i] = state(name + text)[0]
				return w
			}
			does(t, s, get(name), s, s[i].Rows, api.OK)
			does(t, s, putIn(name, 4, 6), want(" 3=5 4=6"), nil, api.OK)
			does(t, s, addTo(name, 3), want(" 3=6"), nil, api.OK)
			does(t, s, del(name), want(""), nil, api.OK)
		}
	}
}

// P8.3: what nothing is promised of makes no panic
func TestDoWrong(t *testing.T) {
	states := [][]api.Table{nil, state("t 3=5"), state("u", "t 9=9 3=5 3=6 -1=1", "t", "a"), {full("t", 100)}, make([]api.Table, 20), {{Name: "t", Rows: []api.Row{{K: math.MaxInt, V: math.MaxInt}, {K: math.MinInt, V: math.MinInt}}}}}
	for _, s := range states {
		before := show(s)
		for _, kind := range []int{-1, 0, 1, 2, 3, 4, 5, 6, math.MaxInt, math.MinInt} {
			for _, table := range []string{"t", "u", "", "A b", strings.Repeat("a", 5000)} {
				for _, k := range []int{0, 3, -1, 1000000, math.MaxInt, math.MinInt} {
					Do(s, api.Cmd{Kind: kind, Table: table, K: k, V: k, Keyed: true})
					Do(s, api.Cmd{Kind: kind, Table: table, K: k, V: k})
				}
			}
		}
		if show(s) != before {
			t.Errorf("%sbecame\n%s", before, show(s))
		}
	}
}

// roomy is a state with spare room behind each list, and all that stands in it, and there.
func roomy() (s, tables []api.Table, rows [][]api.Row) {
	tables = state("a", "t", "u", "x", "y")
	for i := range tables {
		l := []api.Row{{K: 3, V: 5}, {K: 5, V: 1}, {K: 9, V: 999999}, {K: 77, V: 77}, {K: 78, V: 78}, {K: 79, V: 79}}
		rows = append(rows, l)
		tables[i].Rows = l[:3]
	}
	return tables[:3], tables, rows
}

// everyCmd is commands that change something, that change nothing, and that go wrong, on roomy.
func everyCmd() []api.Cmd {
	var l []api.Cmd
	for _, table := range []string{"a", "t", "u", "b", "z"} {
		l = append(l, get(table), getOf(table, 5), getOf(table, 6), putIn(table, 5, 5), putIn(table, 5, 1), putIn(table, 4, 4), putIn(table, 1, 4), putIn(table, 10, 4),
			addTo(table, 3), addTo(table, 4), addTo(table, 9), del(table), delOf(table, 3), delOf(table, 9), delOf(table, 4), made(table))
	}
	return append(l, api.Cmd{Table: "t"})
}

// spoil writes over a state, its rows, and the room behind all lists.
func spoil(s []api.Table) {
	s = s[:cap(s)]
	for i := range s {
		spoilRows(s[i].Rows)
		s[i] = api.Table{Name: "spoilt", Rows: []api.Row{{K: -1, V: -1}}}
	}
}

// spoilRows writes over rows, and the room behind them.
func spoilRows(rows []api.Row) {
	rows = rows[:cap(rows)]
	for i := range rows {
		rows[i] = api.Row{K: -7, V: -7}
	}
}

// P8.3, P8.4: what is handed in stays as it was, the room behind it too
func TestHandedInStays(t *testing.T) {
	_, fresh, freshRows := roomy()
	unchanged := func(what string, tables []api.Table, rows [][]api.Row) {
		t.Helper()
		if !equal(tables, fresh) {
			t.Errorf("%s made\n%s", what, show(tables))
		}
		for i := range rows {
			if !slices.Equal(rows[i], freshRows[i]) {
				t.Errorf("%s made rows %v", what, rows[i])
			}
		}
	}
	for _, c := range everyCmd() {
		s, tables, rows := roomy()
		then, told, _ := Do(s, c)
		unchanged("Do "+show(then), tables, rows)
		// What is told goes its own way.
		then = append(then, api.Table{Name: "more"})
		for i := range then {
			then[i].Rows = append(then[i].Rows, api.Row{K: 8, V: 8})
		}
		told = append(told, api.Row{K: 8, V: 8})
		spoil(then)
		spoilRows(told)
		unchanged("spoiling what is told", tables, rows)
	}
	s, tables, rows := roomy()
	Right(s)
	Find(s, "u")
	Same(s, s[:2])
	other := Copy(s)
	unchanged("a call", tables, rows)
	spoil(append(other, api.Table{}))
	spoil(other)
	unchanged("spoiling a copy", tables, rows)
}

// P8.3, P8.4: no two lists of what is told share anything, nor with what comes later
func TestToldIsNew(t *testing.T) {
	for _, c := range everyCmd() {
		s, _, _ := roomy()
		want, wantRows, err := Do(s, c)
		then, told, _ := Do(s, c)
		spoilRows(told)
		if !equal(then, want) {
			t.Errorf("Do %v: the state shares with the rows", c)
		}
		then, told, _ = Do(s, c)
		spoil(then)
		if !slices.Equal(told, wantRows) {
			t.Errorf("Do %v: the rows share with the state", c)
		}
		again, rows, e := Do(s, c)
		if !equal(again, want) || !slices.Equal(rows, wantRows) || e != err {
			t.Errorf("Do %v: another answer", c)
		}
		// Each table's rows, apart from those of the others.
		for i := range again {
			then, _, _ = Do(s, c)
			spoilRows(append(then[i].Rows, api.Row{}))
			spoilRows(then[i].Rows)
			for k := range then {
				if k != i && !slices.Equal(then[k].Rows, want[k].Rows) {
					t.Errorf("Do %v: table %d shares with %d", c, i, k)
				}
			}
		}
		// What was handed in goes its own way, too.
		then, told, _ = Do(s, c)
		spoil(s)
		if !equal(then, want) || !slices.Equal(told, wantRows) {
			t.Errorf("Do %v: what is told shares with what was handed in", c)
		}
	}
}

// P8.3, P8.4: texts that are answered are new memory
func TestTextsAreNew(t *testing.T) {
	s := state("aa", "bb")
	same := func(a, b string) bool { return unsafe.StringData(a) == unsafe.StringData(b) }
	if same(Copy(s)[1].Name, s[1].Name) {
		t.Error("Copy: what was handed in")
	}
	c := made("cc")
	if then, _, _ := Do(s, c); same(then[0].Name, s[0].Name) || same(then[2].Name, c.Table) {
		t.Error("Do: what was handed in")
	}
}

// P8.4: Copy
func TestCopy(t *testing.T) {
	for _, s := range [][]api.Table{
		nil, {}, state("t"), state("t 3=5"), state("a", "t 3=5 4=0", "u 7=7"), many(16), many(20), {full("t", 64)},
		// Of states that are not right, too.
		make([]api.Table, 3), state("b", "a", "b 9=1 3=-2 3=1000000"), {full("t", 100)}, {{Name: strings.Repeat("a", 100)}},
	} {
		want := show(s)
		c := Copy(s)
		if show(c) != want || !Same(c, s) || !Same(s, c) || show(s) != want {
			t.Errorf("Copy of\n%s=\n%s", want, show(c))
		}
		other := Copy(s)
		spoil(c)
		if show(s) != want || show(other) != want {
			t.Errorf("a copy of\n%sshares a list", want)
		}
		spoil(s)
		if show(other) != want {
			t.Errorf("a copy of\n%sshares a list with it", want)
		}
	}
}

// P8.4: Same
func TestSame(t *testing.T) {
	different := [][]api.Table{
		nil, {{}}, state("t"), state("u"), state("T"), state("tt"), state("t 3=5"), state("t 3=6"), state("t 4=5"), state("t 3=5 4=5"), state("t 4=5 3=5"), state("t 3=5 3=5"), state("t 0=0"), state("t 0=0 0=0"), state("u 3=5"),
		state("t", "u"), state("u", "t"), state("t", "t"), state("t 3=5", "u"), state("t", "u 3=5"), state("u 3=5", "t"), state("u", "t 3=5"), state("t 3=5", "u 4=6"), state("t 4=6", "u 3=5"), state("t", "u", "v"), state("t", "v", "u"),
		many(15), many(16), many(17), {full("t", 63)}, {full("t", 64)}, {full("t", 65)}, make([]api.Table, 2), {{Name: "t", Rows: []api.Row{{K: 1 << 32}}}}, {{Name: "t", Rows: []api.Row{{V: 1 << 32}}}},
	}
	for i, a := range different {
		for k, b := range different {
			if got := Same(a, b); got != (i == k) {
				t.Errorf("Same of\n%sand\n%s= %v", show(a), show(b), got)
			}
			if got := Same(Copy(a), Copy(b)); got != (i == k) {
				t.Errorf("Same of copies of\n%sand\n%s= %v", show(a), show(b), got)
			}
		}
	}
	// A nil list is an empty one.
	if !Same(nil, []api.Table{}) || !Same([]api.Table{}, nil) || !Same([]api.Table{{Name: "t"}}, []api.Table{{Name: "t", Rows: []api.Row{}}}) {
		t.Error("nil is not the same as empty")
	}
	// The room behind says nothing.
	s, _, _ := roomy()
	if !Same(s, state("a 3=5 5=1 9=999999", "t 3=5 5=1 9=999999", "u 3=5 5=1 9=999999")) {
		t.Error(show(s))
	}
}

// Each table's rows, as the laws are asked of them.
type model map[string]map[int]int

// does is what a command tells, by the model, which changes.
func (m model) does(c api.Cmd) ([]api.Row, api.Errno) {
	rows, there := m[c.Table]
	if c.Kind == api.New {
		switch {
		case there:
			return nil, api.ErrTwice
		case len(m) == api.MaxTables:
			return nil, api.ErrFull
		}
		m[c.Table] = map[int]int{}
		return nil, api.OK
	}
	if !there {
		return nil, api.ErrNone
	}
	v, has := rows[c.K]
	var told []api.Row
	switch {
	case c.Kind == api.Get && !c.Keyed:
		for _, k := range slices.Sorted(maps.Keys(rows)) {
			told = append(told, api.Row{K: k, V: rows[k]})
		}
	case c.Kind == api.Get && has:
		told = append(told, api.Row{K: c.K, V: v})
	case c.Kind == api.Put && !has && len(rows) == api.MaxRows:
		return nil, api.ErrFull
	case c.Kind == api.Put:
		rows[c.K] = c.V
	case c.Kind == api.Add && has && v == 999999:
		return nil, api.ErrBig
	case c.Kind == api.Add && has:
		rows[c.K]++
	case c.Kind == api.Del && !c.Keyed:
		clear(rows)
	case c.Kind == api.Del:
		delete(rows, c.K)
	}
	return told, api.OK
}

// state is a model's state.
func (m model) state() []api.Table {
	var s []api.Table
	for _, name := range slices.Sorted(maps.Keys(m)) {
		told, _ := m.does(get(name))
		s = append(s, api.Table{Name: name, Rows: told})
	}
	return s
}

// anyCmd is a command of any kind that has a text, on few tables and keys.
func anyCmd(r *rand.Rand) api.Cmd {
	table := "t" + strconv.Itoa(r.Intn(20))
	k, v := r.Intn(80), r.Intn(3)
	if r.Intn(2) == 0 {
		v = 999999 - v
	}
	if r.Intn(400) == 0 {
		return del(table)
	}
	switch r.Intn(40) {
	case 0, 1:
		return delOf(table, k)
	case 2, 3:
		return get(table)
	case 4, 5:
		return getOf(table, k)
	case 6, 7, 8:
		return made(table)
	case 9, 10, 11, 12, 13, 14:
		return addTo(table, k)
	}
	return putIn(table, k, v)
}

// P8.3 to P8.5: what random commands do, against a model
func TestLaws(t *testing.T) {
	r := rand.New(rand.NewSource(85))
	type answer struct {
		kind int
		err  api.Errno
	}
	seen := map[answer]int{}
	for range 4 {
		m := model{}
		var s []api.Table
		for range 6000 {
			c := anyCmd(r)
			if Text(c) == "" {
				t.Fatalf("%v has no text", c)
			}
			rows, err := m.does(c)
			then, told, e := Do(s, c)
			seen[answer{c.Kind, e}]++
			if e != err || !slices.Equal(told, rows) || !equal(then, m.state()) {
				t.Fatalf("Do %v on\n%s= %v, %d\n%swant %v, %d", c, show(s), told, e, show(then), rows, err)
			}
			lawful(t, s, then, c, e)
			s = then
		}
	}
	for _, a := range []answer{
		{api.Get, api.OK}, {api.Put, api.OK}, {api.Add, api.OK}, {api.Del, api.OK}, {api.New, api.OK},
		{api.Get, api.ErrNone}, {api.Put, api.ErrNone}, {api.Add, api.ErrNone}, {api.Del, api.ErrNone},
		{api.New, api.ErrTwice}, {api.New, api.ErrFull}, {api.Put, api.ErrFull}, {api.Add, api.ErrBig},
	} {
		if seen[a] < 20 {
			t.Errorf("only %d of kind %d with error %d", seen[a], a.kind, a.err)
		}
	}
}

// lawful asks whether a right state, and what a command has made of it, keep the laws.
func lawful(t *testing.T, s, then []api.Table, c api.Cmd, e api.Errno) {
	t.Helper()
	if !Right(then) {
		t.Fatalf("Do %v on\n%sis not right:\n%s", c, show(s), show(then))
	}
	if e != api.OK && !Same(then, s) {
		t.Fatalf("Do %v: an error, and a change", c)
	}
	for _, table := range s {
		if at := Find(then, table.Name); table.Name != c.Table && (at < 0 || !slices.Equal(then[at].Rows, table.Rows)) {
			t.Fatalf("Do %v changed %s", c, table.Name)
		}
	}
	if c.Kind == api.Put && e == api.OK {
		if _, got, _ := Do(then, getOf(c.Table, c.K)); !slices.Equal(got, []api.Row{{K: c.K, V: c.V}}) {
			t.Fatalf("%v was put, and %v is got", c, got)
		}
	}
}
