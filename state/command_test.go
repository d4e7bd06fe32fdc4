package state

import (
	"math"
	"math/rand"
	"slices"
	"strconv"
	"strings"
	"testing"
	"unsafe"

	"pontoon/api"
	"pontoon/lexer"
)

// scan is the tokens of a text that is right.
func scan(t *testing.T, s string) []api.Token {
	t.Helper()
	l, e, _ := lexer.Scan(s)
	if e != api.OK {
		t.Fatalf("Scan(%q): error %d", s, e)
	}
	return l
}

// commands asks whether a text is such a command.
func commands(t *testing.T, s string, want api.Cmd) {
	t.Helper()
	if c, is := Command(scan(t, s)); !is || c != want {
		t.Errorf("Command of %q = %v, %v, want %v", s, c, is, want)
	}
}

// none asks whether texts are no commands.
func none(t *testing.T, texts ...string) {
	t.Helper()
	for _, s := range texts {
		noneOf(t, scan(t, s))
	}
}

// noneOf asks whether tokens are no command.
func noneOf(t *testing.T, l []api.Token) {
	t.Helper()
	if c, is := Command(l); is || c != (api.Cmd{}) {
		t.Errorf("Command of %v = %v, %v", l, c, is)
	}
}

// shows asks whether a command has such a text, and is read again from it.
func shows(t *testing.T, c api.Cmd, want string) {
	t.Helper()
	if got := Text(c); got != want {
		t.Errorf("Text of %v = %q, want %q", c, got, want)
		return
	}
	if want != "" {
		commands(t, want, c)
	}
}

// sample is a command, and its text.
type sample struct {
	text string
	c    api.Cmd
}

// samples is a command of each form, of a table, a key 5 and a value 7.
func samples(table string) []sample {
	return []sample{
		{"select * from " + table, api.Cmd{Kind: api.Get, Table: table}},
		{"select * from " + table + " where k = 5", api.Cmd{Kind: api.Get, Table: table, K: 5, Keyed: true}},
		{"insert into " + table + " values ( 5 , 7 )", api.Cmd{Kind: api.Put, Table: table, K: 5, V: 7, Keyed: true}},
		{"update " + table + " set v = v + 1 where k = 5", api.Cmd{Kind: api.Add, Table: table, K: 5, Keyed: true}},
		{"delete from " + table, api.Cmd{Kind: api.Del, Table: table}},
		{"delete from " + table + " where k = 5", api.Cmd{Kind: api.Del, Table: table, K: 5, Keyed: true}},
		{"create table " + table, api.Cmd{Kind: api.New, Table: table}},
	}
}

// renamed is tokens with another text in place of the table t.
func renamed(l []api.Token, table string) []api.Token {
	l = slices.Clone(l)
	l[slices.IndexFunc(l, func(k api.Token) bool { return k.Text == "t" })].Text = table
	return l
}

// P8.1: each command, keyed and not
func TestEachCommand(t *testing.T) {
	for _, one := range samples("t") {
		s, c := one.text, one.c
		commands(t, s, c)
		commands(t, strings.ToUpper(s), c)
		commands(t, " "+strings.ReplaceAll(s, " ", "\n/* a */\t")+" -- b", c)
		shows(t, c, s)
	}
	commands(t, "insert into t values(5,7)", api.Cmd{Kind: api.Put, Table: "t", K: 5, V: 7, Keyed: true})
	commands(t, "update t set v=v+1 where k=5", api.Cmd{Kind: api.Add, Table: "t", K: 5, Keyed: true})
	commands(t, "select*from t where k=5", api.Cmd{Kind: api.Get, Table: "t", K: 5, Keyed: true})
	if c := (api.Cmd{}); Text(c) != "" {
		t.Errorf("Text of a zero one = %q", Text(c))
	}
}

// P8.1: texts that are no commands
func TestNoCommand(t *testing.T) {
	noneOf(t, nil)
	noneOf(t, []api.Token{})
	none(t,
		"", ";", "t", "select", "begin", "commit", "select 1", "select *", "select * from", "select * from t, u", "select * from t x",
		"select * from s.t", "select k from t", "select k, v from t", "select t", "select from t", "table t", "select * from (t)",
		"select * from t where", "select * from t where k", "select * from t where k =", "select * from t where k 5", "select * from t where v = 5",
		"select * from t where 5 = k", "select * from t where k = v", "select * from t where k < 5", "select * from t where k = $1",
		"select * from t where (k = 5)", "select * from t where k = 5 and v = 7", "select * from t where k == 5", "select * from t having k = 5",
		"select distinct * from t", "select * into t", "select * from t for update", "with t select * from t",
		"insert into t values", "insert into t values ()", "insert into t values (5)", "insert into t values (5, 7, 1)", "insert into t values 5, 7",
		"insert into t values (5 7)", "insert into t values (5, 7", "insert into t values 5, 7)", "insert into t values (5; 7)", "insert into t values [5, 7]",
		"insert into t values (5, 7), (1, 2)", "insert into t (k, v) values (5, 7)", "insert t values (5, 7)", "insert into t set k = 5", "insert into t",
		"insert into t values (5, null)", "insert into t values ($2, $3)", "insert into t values (,)", "merge into t values (5, 7)", "insert from t values (5, 7)",
		"update t set v = v + 1", "update t set v = v + 1 where", "update t set v = v + 2 where k = 5", "update t set v = v + 01 where k = 5",
		"update t set v = v + 1. where k = 5", "update t set v = v + 1.0 where k = 5", "update t set v = v - 1 where k = 5", "update t set v = 1 + v where k = 5",
		"update t set v = k + 1 where k = 5", "update t set k = k + 1 where k = 5", "update t set v = 1 where k = 5", "update t set v = v + 1 where v = 5",
		"update t set v = v where k = 5", "update t set v = v + $2 where k = 5", "update t set (v = v + 1) where k = 5", "update t v = v + 1 where k = 5",
		"delete t", "delete from", "delete from t where", "delete from t where v = 5", "delete from t using u", "delete * from t", "delete from t k = 5",
		"truncate t", "create t", "create table", "create table t u", "create table t (k, v)", "create table if not exists t", "drop table t",
		"create table t where k = 5", "create temp table t", "table create t", "create view t",
		"begin; select * from t",
	)
	for _, one := range samples("t") {
		s := one.text
		none(t, s+";", ";"+s, s+"; "+s, s+" x", "x "+s, s+",", s+" 5", s+" where k = 5 5", "explain "+s, "("+s+")")
	}
}

// P8.1: one token more or less, others, or in another order
func TestTokensOfACommand(t *testing.T) {
	for _, one := range samples("t") {
		l := scan(t, one.text)
		for i := range len(l) {
			noneOf(t, slices.Delete(slices.Clone(l), i, i+1))
			noneOf(t, slices.Insert(slices.Clone(l), i, l[i]))
			for _, more := range []api.Token{{Kind: api.Word, Text: "x"}, {Kind: api.Quoted, Text: "x"}, {Kind: api.Sign, Text: ";"}, {Kind: api.Num, Text: "5"}, {}} {
				noneOf(t, slices.Insert(slices.Clone(l), i, more))
				noneOf(t, append(slices.Clone(l), more))
			}
			if i > 0 && l[i] != l[i-1] {
				turned := slices.Clone(l)
				turned[i], turned[i-1] = turned[i-1], turned[i]
				noneOf(t, turned)
			}
		}
	}
}

// strangeKinds are kinds that no token has.
var strangeKinds = []int{0, 6, -1, -api.Word, api.Word + 256, 1<<32 + api.Word, 1<<32 + api.Num, math.MaxInt, math.MinInt}

// P8.1: each token of another kind than it has, and of another text
func TestKindsAndTexts(t *testing.T) {
	for _, one := range samples("t") {
		l := scan(t, one.text)
		for i := range l {
			for _, kind := range append(slices.Clone(strangeKinds), api.Word, api.Quoted, api.Str, api.Num, api.Sign) {
				if kind == l[i].Kind {
					continue
				}
				other := slices.Clone(l)
				other[i].Kind = kind
				noneOf(t, other)
			}
			for _, text := range []string{"", " ", l[i].Text + " ", " " + l[i].Text, l[i].Text + "\x00", "\"" + l[i].Text + "\"", "'" + l[i].Text + "'", "(" + l[i].Text + ")", "\xff" + l[i].Text + ".", "$1", "$2", "$3", ";", "--", "A"} {
				other := slices.Clone(l)
				other[i].Text = text
				noneOf(t, other)
			}
			if great := strings.ToUpper(l[i].Text); great != l[i].Text {
				other := slices.Clone(l)
				other[i].Text = great
				noneOf(t, other)
			}
		}
	}
	none(t, `"select" * from t`, `select '*' from t`, `select * "from" t`, `select * from "t"`, `select * from 't'`, `select * from $$t$$`, `select * from 5`,
		`select * from $1`, `select * from t where "k" = 5`, `select * from t where k = "5"`, `select * from t where k = '5'`, `select * from t where k = $$5$$`,
		`insert into t values (5, '7')`, `insert into t values ("5", 7)`, `insert into t values (k, 7)`, `update t set "v" = v + 1 where k = 5`,
		`update t set v = v + '1' where k = 5`, `create table "t"`, `create "table" t`, `delete from 't'`)
}

// P8.1: places of tokens say nothing
func TestPlaces(t *testing.T) {
	for _, one := range samples("t") {
		l := scan(t, one.text)
		for i := range l {
			l[i].At = -7 * i
		}
		if c, is := Command(l); !is || c != one.c {
			t.Errorf("%q: %v, %v", one.text, c, is)
		}
	}
}

// allKeyWords are the key words of chapter 7.
const allKeyWords = "select from where join on using group order having limit offset union except intersect as and or not in is null values set into inner left right full outer cross natural lateral only returning window for fetch when then with table"

// eachTable asks whether there are commands of a table, as tokens and as parts.
func eachTable(t *testing.T, table string, want bool) {
	t.Helper()
	named := samples(table)
	for i, one := range samples("t") {
		l := renamed(scan(t, one.text), table)
		if !want {
			noneOf(t, l)
			shows(t, named[i].c, "")
			continue
		}
		if c, is := Command(l); !is || c != named[i].c {
			t.Errorf("Command of %v = %v, %v", l, c, is)
		}
		shows(t, named[i].c, named[i].text)
	}
}

// P8.1: which texts can be a table
func TestTables(t *testing.T) {
	for _, k := range strings.Fields(allKeyWords) {
		eachTable(t, k, false)
		eachTable(t, k+"_", true)
		eachTable(t, "x"+k, true)
		none(t, "select * from "+strings.ToUpper(k), `select * from "`+k+`"`)
	}
	if n := len(strings.Fields(allKeyWords)); n != 41 {
		t.Errorf("%d key words", n)
	}
	for _, s := range []string{"insert", "update", "delete", "merge"} {
		eachTable(t, s, false)
		eachTable(t, s+"s", true)
		eachTable(t, s[1:], true)
	}
	for _, s := range []string{"t", "k", "v", "_", "a$1", "t$", "a$$b$$", "a$2$3", "\xff", "\x80", "é", "tä_9", "truncate", "begin", "commit", "create", "drop", "share", "key", "by", "all", "distinct", "to", "k5", "pg_x", "now", "start", "explain", "É"} {
		eachTable(t, s, true)
	}
	for _, s := range []string{
		"", " ", "T", "tT", "a b", " t", "t ", "t\n", "\tt", "t--", "t -- a", "t/**/", "/**/t", "t;", ";t", "t,", "t.u", "s.t", "t.", ".t", "(t)", "t(", "-t",
		"1", "1t", "5", "$1", "$2", "$3", "$t", "$t$", "$t$t$t$", "\"t\"", "\"\"", "'t'", "''", "'", "\"", "t'", "t\"", "t\x00", "\x00", "\x7f", "{", "t{", "t where k = 5", "t x", "*", "only t", "t, u",
		"--", "/*", "t/*", "t values ( 5 , 7 ) --", "t set v = v + 1 where k = 5 --",
	} {
		eachTable(t, s, false)
	}
}

// P8.1: how long a table's name can be
func TestTableSizes(t *testing.T) {
	for n := 1; n < 65; n++ {
		eachTable(t, strings.Repeat("a", n), n <= 30)
		eachTable(t, "_"+strings.Repeat("1", n-1), n <= 30)
	}
	// Bytes count, not letters.
	eachTable(t, strings.Repeat("é", 15), true)
	eachTable(t, strings.Repeat("é", 15)+"a", false)
	eachTable(t, strings.Repeat("é", 16), false)
	for _, n := range []int{1900, 2000, 2001, 5000, 100000} {
		eachTable(t, strings.Repeat("a", n), false)
	}
}

// keyed is each text with a hole for a key or a value, the rest of the command, and where it goes.
var keyed = []struct {
	text  string
	c     api.Cmd
	value bool
}{
	{"select * from t where k = #", api.Cmd{Kind: api.Get, Table: "t", Keyed: true}, false},
	{"insert into t values ( # , 7 )", api.Cmd{Kind: api.Put, Table: "t", V: 7, Keyed: true}, false},
	{"insert into t values ( 5 , # )", api.Cmd{Kind: api.Put, Table: "t", K: 5, Keyed: true}, true},
	{"update t set v = v + 1 where k = #", api.Cmd{Kind: api.Add, Table: "t", Keyed: true}, false},
	{"delete from t where k = #", api.Cmd{Kind: api.Del, Table: "t", Keyed: true}, false},
}

// with is a command with a number where it goes.
func with(c api.Cmd, value bool, n int) api.Cmd {
	if value {
		c.V = n
	} else {
		c.K = n
	}
	return c
}

// P8.1: keys and values, as they are written
func TestNumbers(t *testing.T) {
	for _, k := range keyed {
		for s, n := range map[string]int{
			"0": 0, "1": 1, "9": 9, "10": 10, "12": 12, "123": 123, "1234": 1234, "12345": 12345, "123456": 123456, "99999": 99999, "100000": 100000, "999998": 999998, "999999": 999999,
			"00": 0, "000000": 0, "01": 1, "007": 7, "000001": 1, "0999": 999, "099999": 99999, "010": 10, "08": 8,
		} {
			commands(t, strings.ReplaceAll(k.text, "#", s), with(k.c, k.value, n))
		}
		for _, s := range []string{
			"1000000", "9999999", "0000000", "0000001", "0999999", "1234567", "10000000", "99999999999999999999", "18446744073709551616", strings.Repeat("0", 100),
			"-1", "+1", "- 0", "(1)", "1.", "1.5", "0.0", "1.0", "5..", "1.2.3", ".5", "1e3", "1_0", "0x1", "'1'", "\"1\"", "$$1$$", "$1", "$2", "$3", "k", "v", "null", "1 2", "1,2", "1 + 1", "", "*",
		} {
			none(t, strings.ReplaceAll(k.text, "#", s))
		}
		for _, s := range []string{"", " ", " 1", "1 ", "+1", "-1", "-0", "1.", ".", "1.5", "1,", "0x1", "1e1", "1_0", "1_000", "a", "k", "\x00", "1\x00", "١", "１", "1\n", "--1", "1--", "1/**/", strings.Repeat("1", 7), strings.Repeat("0", 1000)} {
			l := scan(t, strings.ReplaceAll(k.text, "#", "6"))
			i := slices.IndexFunc(l, func(k api.Token) bool { return k.Kind == api.Num && k.Text == "6" })
			l[i].Text = s
			noneOf(t, l)
		}
	}
}

// P8.1: keys and values, as they are told
func TestNumbersTold(t *testing.T) {
	for _, k := range keyed {
		for _, n := range []int{0, 1, 9, 10, 99, 100, 999, 1000, 99999, 100000, 123456, 999998, 999999} {
			shows(t, with(k.c, k.value, n), strings.ReplaceAll(k.text, "#", strconv.Itoa(n)))
		}
		for _, n := range []int{-1, -2, -10, -999999, 1000000, 1000001, 9999999, 1 << 31, 1 << 32, 1<<32 + 5, math.MaxInt, math.MinInt, math.MinInt + 1} {
			shows(t, with(k.c, k.value, n), "")
		}
	}
	for n := range 1000 {
		shows(t, api.Cmd{Kind: api.Put, Table: "t", K: n * 1000, V: 999999 - n*1000, Keyed: true}, "insert into t values ( "+strconv.Itoa(n*1000)+" , "+strconv.Itoa(999999-n*1000)+" )")
	}
}

// P8.1: parts that a command does not have
func TestPartsItHasNot(t *testing.T) {
	for _, kind := range []int{api.Get, api.Put, api.Add, api.Del, api.New} {
		for _, hasKey := range []bool{false, true} {
			for _, k := range []int{0, 1, -1, 999999, 1000000} {
				for _, v := range []int{0, 1, -1, 999999, 1000000} {
					c := api.Cmd{Kind: kind, Table: "t", K: k, V: v, Keyed: hasKey}
					right := k >= 0 && k <= 999999 && v >= 0 && v <= 999999 && (hasKey || k == 0) && (kind == api.Put || v == 0)
					switch kind {
					case api.Put, api.Add:
						right = right && hasKey
					case api.New:
						right = right && !hasKey
					}
					got := Text(c)
					if (got != "") != right {
						t.Errorf("Text of %v = %q", c, got)
					}
					if got != "" {
						commands(t, got, c)
					}
				}
			}
		}
	}
}

// P8.1: commands of a kind that is none of the five
func TestWrongCommands(t *testing.T) {
	for _, kind := range []int{0, 6, 7, -1, -api.Get, 256 + api.Get, 1<<32 + api.Get, 1<<32 + api.New, math.MaxInt, math.MinInt} {
		for _, one := range samples("t") {
			one.c.Kind = kind
			shows(t, one.c, "")
		}
		shows(t, api.Cmd{Kind: kind}, "")
	}
	for kind := range 6 {
		shows(t, api.Cmd{Kind: kind}, "")
		shows(t, api.Cmd{Kind: kind, Keyed: true}, "")
	}
}

// P8.1: what is handed in stays as it was, and is not kept
func TestTokensStay(t *testing.T) {
	for _, one := range samples("tt") {
		s, c := one.text, one.c
		room := append(scan(t, s), scan(t, "where k = 5 x")...)
		before := slices.Clone(room)
		for n := range len(room) + 1 {
			Command(room[:n])
			if !slices.Equal(room, before) {
				t.Fatalf("%q: %v", s, room)
			}
		}
		l := scan(t, s)
		got, _ := Command(l)
		if c != got {
			t.Fatalf("%q: %v", s, got)
		}
		i := slices.IndexFunc(l, func(k api.Token) bool { return k.Text == "tt" })
		if unsafe.StringData(l[i].Text) == unsafe.StringData(got.Table) {
			t.Errorf("%q: the table is what was handed in", s)
		}
	}
	// What stands behind a list of tokens is none of it.
	room := scan(t, "select * from t where k = 5")
	for n, want := range []bool{false, false, false, false, true, false, false, false, true} {
		if c, is := Command(room[:n]); is != want || is && c.Keyed != (n == 8) {
			t.Errorf("%d tokens: %v, %v", n, c, is)
		}
	}
}

// P8.1: random commands, and random tokens
func TestRandomCommands(t *testing.T) {
	r := rand.New(rand.NewSource(8))
	tables := []string{"t", "u", "T", "", "from", "merge", "a b", "a$1"}
	numbers := []int{0, 0, 0, 1, 5, 999999, 1000000, -1}
	texts := 0
	for range 20000 {
		c := api.Cmd{Kind: r.Intn(8) - 1, Table: tables[r.Intn(len(tables))], K: numbers[r.Intn(len(numbers))], V: numbers[r.Intn(len(numbers))], Keyed: r.Intn(2) == 0}
		s := Text(c)
		if s == "" {
			continue
		}
		texts++
		commands(t, s, c)
		l := scan(t, s)
		if lexer.Show(l) != s {
			t.Fatalf("%q: not one blank between tokens", s)
		}
	}
	if texts < 300 {
		t.Errorf("only %d have a text", texts)
	}
	pieces := strings.Fields("select * from t where k = 5 insert into values ( , 7 ) update set v + 1 delete create table ; 'x' \"t\"")
	for range 20000 {
		var l []string
		for range r.Intn(12) {
			l = append(l, pieces[r.Intn(len(pieces))])
		}
		s := strings.Join(l, " ")
		if c, is := Command(scan(t, s)); is && Text(c) != s || !is && c != (api.Cmd{}) {
			t.Fatalf("%q: %v, %v", s, c, is)
		}
	}
}
