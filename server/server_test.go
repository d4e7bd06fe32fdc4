package server

import (
	"fmt"
	"math"
	"slices"
	"strconv"
	"strings"
	"testing"

	"pontoon/api"
	"pontoon/state"
	"pontoon/trans"
)

// What is told is written down in tests as words with a bar between:
//
//	C BEGIN      what was done
//	I            the statement was empty
//	E 13         the fault of error 13
//	T            the columns k and v
//	3=5          a row
//	T 3=5 4=6    columns, these rows, and how many they are
//	Z I          the status

// told makes messages from such words.
func told(words string) []api.Tell {
	var l []api.Tell
	for part := range strings.SplitSeq(words, " | ") {
		kind, rest, _ := strings.Cut(part, " ")
		switch kind {
		case "C":
			l = append(l, api.Tell{Kind: 'C', Text: rest})
		case "I":
			l = append(l, api.Tell{Kind: 'I'})
		case "E":
			l = append(l, api.Tell{Kind: 'E', Keys: []string{"S", "C", "M"}, Vals: []string{"ERROR", rest, "error " + rest}})
		case "Z":
			l = append(l, api.Tell{Kind: 'Z', Status: rest[0]})
		case "T":
			rows := strings.Fields(rest)
			l = append(l, api.Tell{Kind: 'T', Keys: []string{"k", "v"}})
			for _, r := range rows {
				k, v, _ := strings.Cut(r, "=")
				l = append(l, aRow(k, v))
			}
			l = append(l, api.Tell{Kind: 'C', Text: fmt.Sprintf("SELECT %d", len(rows))})
		default:
			panic("a word that tests don't know: " + part)
		}
	}
	return l
}

// aRow is the message of a row with two texts.
func aRow(k, v string) api.Tell {
	return api.Tell{Kind: 'D', Vals: []string{k, v}, Null: []bool{false, false}}
}

// show is messages as text, with all that they have; a nil list and an empty one are the same.
func show(l ...api.Tell) string {
	var b strings.Builder
	for _, t := range l {
		fmt.Fprintf(&b, "[%q %q %q %q %q %v %d %d]", t.Kind, t.Status, t.Text, t.Keys, t.Vals, t.Null, t.N, t.M)
	}
	return b.String()
}

// tables makes tables from texts: a name, and keys and values with a = between, as in "t 3=5 4=0".
func tables(texts ...string) []api.Table {
	var s []api.Table
	for _, text := range texts {
		words := strings.Fields(text)
		s = append(s, api.Table{Name: words[0], Rows: rowsOf(words[1:]...)})
	}
	return s
}

// rowsOf makes rows from texts, as in "3=5".
func rowsOf(texts ...string) []api.Row {
	var l []api.Row
	for _, text := range texts {
		var r api.Row
		if n, err := fmt.Sscanf(text, "%d=%d", &r.K, &r.V); n != 2 || err != nil {
			panic(text)
		}
		l = append(l, r)
	}
	return l
}

// many is n tables without rows, from a100 on.
func many(n int) []api.Table {
	var s []api.Table
	for i := range n {
		s = append(s, api.Table{Name: "a" + strconv.Itoa(100+i)})
	}
	return s
}

// full is a table with n rows: keys and values 0, 10, 20 and so on.
func full(name string, n int) api.Table {
	table := api.Table{Name: name}
	for i := range n {
		table.Rows = append(table.Rows, api.Row{K: 10 * i, V: 10 * i})
	}
	return table
}

// database is a database with a state that is right.
func database(t *testing.T, s ...api.Table) *trans.Db {
	t.Helper()
	d, err := trans.New(s)
	if err != api.OK {
		t.Fatal(err)
	}
	return d
}

// everything is all that a database tells of some sessions, as text.
func everything(d *trans.Db) string {
	s := fmt.Sprintf("%v\n", d.Committed())
	for _, id := range []int{0, 1, 2, 3, 999, 1000} {
		s += fmt.Sprintf("%d: %q sees %v, wrote %q\n", id, d.Status(id), d.Sees(id), d.Written(id))
	}
	return s
}

// asks checks what a session is told of a text.
func asks(t *testing.T, d *trans.Db, id int, sql, want string) {
	t.Helper()
	if got := Exec(d, id, sql); show(got...) != show(told(want)...) {
		t.Errorf("%d asks %.80q: %s, want %s", id, sql, show(got...), want)
	}
}

// keeps checks that a database is the same behind some steps.
func keeps(t *testing.T, d *trans.Db, steps func()) {
	t.Helper()
	before := everything(d)
	steps()
	if after := everything(d); after != before {
		t.Errorf("%sbecame\n%s", before, after)
	}
}

// committed checks what is committed.
func committed(t *testing.T, d *trans.Db, texts ...string) {
	t.Helper()
	if got := d.Committed(); !state.Same(got, tables(texts...)) {
		t.Errorf("committed is %v, want %v", got, texts)
	}
}

// P21.1: Fault, of any number
func TestFault(t *testing.T) {
	for _, c := range []struct {
		e      api.Errno
		number string
	}{
		{api.OK, "0"}, {api.ErrArg, "1"}, {api.ErrTwice, "9"}, {api.ErrState, "10"}, {api.ErrFail, "13"}, {api.ErrLost, "16"},
		{17, "17"}, {99, "99"}, {100, "100"}, {998, "998"}, {999, "999"}, {1000, "1000"}, {123456789, "123456789"},
		{-1, "-1"}, {-999, "-999"}, {math.MaxInt, "9223372036854775807"}, {math.MinInt, "-9223372036854775808"},
	} {
		want := api.Tell{Kind: 'E', Keys: []string{"S", "C", "M"}, Vals: []string{"ERROR", c.number, "error " + c.number}}
		if got := Fault(c.e); show(got) != show(want) {
			t.Errorf("Fault(%d) = %s", c.e, show(got))
		}
	}
}

// P21.1: Errno tells whose fault it is, 1 to 999.
func TestErrnoOfFaults(t *testing.T) {
	for e := api.Errno(-1100); e <= 1100; e++ {
		want := e
		if e < 1 || e > 999 {
			want = api.OK
		}
		if got := Errno(Fault(e)); got != want {
			t.Errorf("Errno of the fault of %d = %d, want %d", e, got, want)
		}
	}
	for _, e := range []api.Errno{9999, 10000, 1 << 32, 1<<32 + 5, 1 << 62, math.MaxInt, math.MinInt, -math.MaxInt} {
		if got := Errno(Fault(e)); got != api.OK {
			t.Errorf("Errno of the fault of %d = %d", e, got)
		}
	}
	// An empty list is the same as none.
	f := Fault(5)
	f.Null = []bool{}
	if got := Errno(f); got != 5 {
		t.Errorf("Errno of a fault with an empty list = %d", got)
	}
}

// P21.1: what differs from a fault somewhere is none.
func TestErrnoOfOthers(t *testing.T) {
	for i, change := range []func(f *api.Tell){
		func(f *api.Tell) { *f = api.Tell{} },
		func(f *api.Tell) { *f = api.Tell{Kind: 'E'} },
		func(f *api.Tell) { f.Kind = 'N' },
		func(f *api.Tell) { f.Kind = 'e' },
		func(f *api.Tell) { f.Kind = 0 },
		func(f *api.Tell) { f.Status = 'E' },
		func(f *api.Tell) { f.Text = "error 5" },
		func(f *api.Tell) { f.N = 5 },
		func(f *api.Tell) { f.M = -1 },
		func(f *api.Tell) { f.Null = []bool{false} },
		func(f *api.Tell) { f.Null = []bool{false, false, false} },
		func(f *api.Tell) { f.Keys = nil },
		func(f *api.Tell) { f.Keys = f.Keys[:2] },
		func(f *api.Tell) { f.Keys = append(f.Keys, "D") },
		func(f *api.Tell) { f.Keys[0] = "s" },
		func(f *api.Tell) { f.Keys[1] = "" },
		func(f *api.Tell) { f.Keys[2] = "MM" },
		func(f *api.Tell) { f.Keys[0], f.Keys[1] = f.Keys[1], f.Keys[0] },
		func(f *api.Tell) { f.Vals = nil },
		func(f *api.Tell) { f.Vals = f.Vals[:1] },
		func(f *api.Tell) { f.Vals = f.Vals[:2] },
		func(f *api.Tell) { f.Vals = append(f.Vals, "") },
		func(f *api.Tell) { f.Vals[0] = "error" },
		func(f *api.Tell) { f.Vals[0] = "FATAL" },
		func(f *api.Tell) { f.Vals[0] = "" },
		func(f *api.Tell) { f.Vals[1] = "6" },
		func(f *api.Tell) { f.Vals[1] = "" },
		func(f *api.Tell) { f.Vals[1] = "x" },
		func(f *api.Tell) { f.Vals[2] = "error 6" },
		func(f *api.Tell) { f.Vals[2] = "Error 5" },
		func(f *api.Tell) { f.Vals[2] = "error  5" },
		func(f *api.Tell) { f.Vals[2] = "error 5 " },
		func(f *api.Tell) { f.Vals[2] = "5" },
		func(f *api.Tell) { f.Vals[2] = "" },
		func(f *api.Tell) { f.Vals[0], f.Vals[1] = f.Vals[1], f.Vals[0] },
		func(f *api.Tell) { f.Vals[1], f.Vals[2] = f.Vals[2], f.Vals[1] },
	} {
		f := Fault(5)
		change(&f)
		if got := Errno(f); got != api.OK {
			t.Errorf("%d: Errno(%s) = %d", i, show(f), got)
		}
	}
	// Numbers that are not written as they are told.
	for _, number := range []string{"05", "005", "+5", "-5", " 5", "5 ", "5.0", "5_0", "0x5", "５", "٥", "5\x00", "", "18446744073709551621", strings.Repeat("5", 5000)} {
		f := api.Tell{Kind: 'E', Keys: []string{"S", "C", "M"}, Vals: []string{"ERROR", number, "error " + number}}
		if got := Errno(f); got != api.OK {
			t.Errorf("Errno of the fault of %.30q = %d", number, got)
		}
	}
}

// P21.2: the example of the chapter
func TestExample(t *testing.T) {
	d := database(t, tables("t")...)
	asks(t, d, 1, "begin", "C BEGIN | Z T")
}

// wrongTexts are texts that sets.Parse doesn't take, and its errors.
func wrongTexts() map[string]api.Errno {
	return map[string]api.Errno{
		"'":                           api.ErrQuote,
		"select * from t 'a":          api.ErrQuote,
		`delete from "t`:              api.ErrQuote,
		"begin /* ":                   api.ErrQuote,
		"$x$ $x":                      api.ErrQuote,
		"{":                           api.ErrChar,
		"select * from t \x00":        api.ErrChar,
		"commit \\":                   api.ErrChar,
		"a; b":                        api.ErrForm,
		"select * from t; commit":     api.ErrForm,
		"begin;begin;":                api.ErrForm,
		strings.Repeat(" ", 2001):     api.ErrBig,
		strings.Repeat("'", 1<<16):    api.ErrBig,
		"begin--" + spaces(2001-7):    api.ErrBig,
		"delete from t" + spaces(1e4): api.ErrBig,
	}
}

// spaces is so many blanks.
func spaces(n int) string {
	return strings.Repeat(" ", n)
}

// P21.2: a text that sets.Parse doesn't take
func TestExecWrongText(t *testing.T) {
	for sql, err := range wrongTexts() {
		fault := "E " + strconv.Itoa(int(err))
		d := database(t, tables("t 3=5")...)
		keeps(t, d, func() { asks(t, d, 1, sql, fault+" | Z I") })
		// A transaction fails of it, and has its own tables still; others don't.
		for _, id := range []int{1, 2} {
			asks(t, d, id, "begin", "C BEGIN | Z T")
			asks(t, d, id, "insert into t values (4, 4)", "C INSERT 0 1 | Z T")
		}
		asks(t, d, 1, sql, fault+" | Z E")
		if got := d.Written(1); !slices.Equal(got, []string{"t"}) {
			t.Errorf("1 wrote %q", got)
		}
		keeps(t, d, func() { asks(t, d, 1, sql, "E 13 | Z E") })
		committed(t, d, "t 3=5")
		asks(t, d, 2, "select * from t", "T 3=5 4=4 | Z T")
	}
}

// P21.2: the longest texts
func TestExecLongText(t *testing.T) {
	d := database(t, tables("t 3=5")...)
	for _, c := range []struct{ sql, want string }{
		{"select * from t", "T 3=5 | Z I"},
		{"delete from t where k = 4", "C DELETE | Z I"},
		{"set", "C SET | Z I"},
		{"", "I | Z I"},
		{"rollback", "E 10 | Z I"},
	} {
		asks(t, d, 1, c.sql+spaces(2000-len(c.sql)), c.want)
		asks(t, d, 1, c.sql+spaces(2001-len(c.sql)), "E 2 | Z I")
	}
}

// empties are texts without a statement.
func empties() []string {
	return []string{"", " ", "\t\r\n\f", ";", " ;; ; ", "-- a", "--", "/* a /* b */ */", "; -- 'x"}
}

// states are texts that change a session's state.
func states() []string {
	return []string{"set a = 1", "SET x;", "set", "reset all", "discard all", "listen a", "unlisten a", "prepare a as select 1", "deallocate a", "declare c cursor", "load 'x'", ";;Set -- a"}
}

// P21.2: Empty and State
func TestExecEmptyAndState(t *testing.T) {
	d := database(t, tables("t 3=5")...)
	answers := map[string]string{}
	for _, sql := range empties() {
		answers[sql] = "I"
	}
	for _, sql := range states() {
		answers[sql] = "C SET"
	}
	asks(t, d, 2, "begin", "C BEGIN | Z T")
	asks(t, d, 3, "begin", "C BEGIN | Z T")
	asks(t, d, 3, "'", "E 6 | Z E")
	for sql, answer := range answers {
		keeps(t, d, func() {
			asks(t, d, 1, sql, answer+" | Z I")
			asks(t, d, 2, sql, answer+" | Z T")
			asks(t, d, 3, sql, "E 13 | Z E")
		})
	}
}

// P21.2: Begin, Commit and Rollback
func TestExecTransaction(t *testing.T) {
	begins := []string{"begin", "BEGIN;", "begin work", "start transaction", "Start Transaction read only;"}
	commits := []string{"commit", "COMMIT ;", "end", "commit work", "End;;"}
	rollbacks := []string{"rollback", "ROLLBACK", "abort", "rollback work;", "/**/Abort"}
	for i := range begins {
		begin, commit, rollback := begins[i], commits[i], rollbacks[i]
		d := database(t, tables("t 3=5")...)
		keeps(t, d, func() {
			asks(t, d, 1, commit, "E 10 | Z I")
			asks(t, d, 1, rollback, "E 10 | Z I")
		})
		asks(t, d, 1, begin, "C BEGIN | Z T")
		asks(t, d, 1, "insert into t values (1, 1)", "C INSERT 0 1 | Z T")
		// It is in a transaction already: that goes on.
		keeps(t, d, func() { asks(t, d, 1, begin, "E 10 | Z T") })
		committed(t, d, "t 3=5")
		asks(t, d, 1, commit, "C COMMIT | Z I")
		committed(t, d, "t 1=1 3=5")
		asks(t, d, 1, begin, "C BEGIN | Z T")
		asks(t, d, 1, "delete from t", "C DELETE | Z T")
		asks(t, d, 1, rollback, "C ROLLBACK | Z I")
		committed(t, d, "t 1=1 3=5")
		for _, end := range []struct{ sql, want string }{{commit, "E 13 | Z I"}, {rollback, "C ROLLBACK | Z I"}} {
			asks(t, d, 1, begin, "C BEGIN | Z T")
			asks(t, d, 1, "delete from t", "C DELETE | Z T")
			asks(t, d, 1, "nothing known", "E 4 | Z E")
			keeps(t, d, func() { asks(t, d, 1, begin, "E 10 | Z E") })
			asks(t, d, 1, end.sql, end.want)
			committed(t, d, "t 1=1 3=5")
		}
	}
}

// P21.2: a Commit for which there is no room
func TestExecCommitFull(t *testing.T) {
	d := database(t, many(api.MaxTables-1)...)
	asks(t, d, 1, "begin", "C BEGIN | Z T")
	asks(t, d, 1, "create table b", "C CREATE TABLE | Z T")
	asks(t, d, 2, "create table c", "C CREATE TABLE | Z I")
	asks(t, d, 1, "commit", "E 11 | Z I")
	asks(t, d, 1, "select * from b", "E 8 | Z I")
	asks(t, d, 1, "select * from c", "T | Z I")
}

// P21.2: each command, idle and in a transaction
func TestExecCommands(t *testing.T) {
	for _, inside := range []bool{false, true} {
		d := database(t, tables("a 0=0 1=999998 999999=999999", "t 3=5 4=6 77=0")...)
		z := " | Z I"
		if inside {
			asks(t, d, 1, "begin", "C BEGIN | Z T")
			z = " | Z T"
		}
		for _, c := range []struct{ sql, want string }{
			{"select * from t", "T 3=5 4=6 77=0"},
			{"select * from t where k = 4", "T 4=6"},
			{"select * from t where k = 5", "T"},
			{"select * from a", "T 0=0 1=999998 999999=999999"},
			{"insert into t values (5, 7)", "C INSERT 0 1"},
			{"insert into t values (3, 8)", "C INSERT 0 1"},
			{"select * from t", "T 3=8 4=6 5=7 77=0"},
			{"update t set v = v + 1 where k = 4", "C UPDATE"},
			{"update t set v = v + 1 where k = 6", "C UPDATE"},
			{"update a set v = v + 1 where k = 1", "C UPDATE"},
			{"select * from t", "T 3=8 4=7 5=7 77=0"},
			{"delete from t where k = 3", "C DELETE"},
			{"delete from t where k = 3", "C DELETE"},
			{"select * from t", "T 4=7 5=7 77=0"},
			{"create table b", "C CREATE TABLE"},
			{"select * from b", "T"},
			{"insert into b values (0, 0)", "C INSERT 0 1"},
			{"insert into b values (999999, 999999)", "C INSERT 0 1"},
			{"select * from b", "T 0=0 999999=999999"},
			{"delete from t", "C DELETE"},
			{"select * from t", "T"},
			{"select * from a", "T 0=0 1=999999 999999=999999"},
		} {
			asks(t, d, 1, c.sql, c.want+z)
		}
		if inside {
			committed(t, d, "a 0=0 1=999998 999999=999999", "t 3=5 4=6 77=0")
			asks(t, d, 2, "select * from t", "T 3=5 4=6 77=0 | Z I")
			asks(t, d, 1, "commit", "C COMMIT | Z I")
		}
		committed(t, d, "a 0=0 1=999999 999999=999999", "b 0=0 999999=999999", "t")
	}
}

// P21.2: ways to write a command; Signs ; and what is no token make no difference.
func TestExecWritten(t *testing.T) {
	d := database(t, tables("now 2=2", "t 3=5 40=6", strings.Repeat("x", 30)+" 9=9", "é 1=1")...)
	for _, c := range []struct{ sql, want string }{
		{"SELECT * FROM T;", "T 3=5 40=6"},
		{";; select*from t where k=3;;", "T 3=5"},
		{"select /* it's */ * from -- \"\nt", "T 3=5 40=6"},
		{"select * from t where k = 000040", "T 40=6"},
		{"select * from é", "T 1=1"},
		{"select * from now", "T 2=2"},
		{"Select * From " + strings.Repeat("X", 30), "T 9=9"},
		{";Insert Into T Values(03,000007);", "C INSERT 0 1"},
		{"UPDATE t SET v=v+1 WHERE k=3;", "C UPDATE"},
		{"delete/**/from t where k=40", "C DELETE"},
		{"create\ttable\nu;", "C CREATE TABLE"},
	} {
		asks(t, d, 1, c.sql, c.want+" | Z I")
	}
	asks(t, d, 1, "select * from t", "T 3=8 | Z I")
	asks(t, d, 1, "select * from u", "T | Z I")
}

// P21.2: all rows of a full table
func TestExecManyRows(t *testing.T) {
	d := database(t, full("t", api.MaxRows))
	want := "T"
	for i := range api.MaxRows {
		want += fmt.Sprintf(" %d=%d", 10*i, 10*i)
	}
	asks(t, d, 1, "select * from t", want+" | Z I")
}

// P21.2: each error of a command; a transaction fails of it.
func TestExecCommandErrors(t *testing.T) {
	s := append(many(14), full("x", api.MaxRows), tables("y 3=999999 4=5")[0])
	for _, c := range []struct{ sql, fault string }{
		{"select * from z", "E 8"},
		{"select * from z where k = 1", "E 8"},
		{"insert into z values (1, 1)", "E 8"},
		{"update z set v = v + 1 where k = 1", "E 8"},
		{"delete from z", "E 8"},
		{"delete from z where k = 1", "E 8"},
		{"create table x", "E 9"},
		{"create table a100", "E 9"},
		{"create table z", "E 11"},
		{"insert into x values (5, 5)", "E 11"},
		{"update y set v = v + 1 where k = 3", "E 2"},
	} {
		d := database(t, s...)
		asks(t, d, 2, "begin", "C BEGIN | Z T")
		keeps(t, d, func() { asks(t, d, 1, c.sql, c.fault+" | Z I") })
		asks(t, d, 1, "begin", "C BEGIN | Z T")
		asks(t, d, 1, "insert into y values (5, 5)", "C INSERT 0 1 | Z T")
		asks(t, d, 1, c.sql, c.fault+" | Z E")
		keeps(t, d, func() {
			asks(t, d, 1, c.sql, "E 13 | Z E")
			asks(t, d, 1, "select * from y", "E 13 | Z E")
			asks(t, d, 1, "delete from y", "E 13 | Z E")
			asks(t, d, 1, "create table x", "E 13 | Z E")
			asks(t, d, 2, "select * from y", "T 3=999999 4=5 | Z T")
			asks(t, d, 3, "select * from y", "T 3=999999 4=5 | Z I")
		})
		asks(t, d, 1, "rollback", "C ROLLBACK | Z I")
		if got := d.Committed(); !state.Same(got, s) {
			t.Errorf("%q: committed is %v", c.sql, got)
		}
	}
}

// noCommands are texts of the classes Read, Write and Unknown that the database can't do.
func noCommands() []string {
	return []string{
		"select 1", "select * from \"t\"", "select * from t, t", "select k from t", "select * from t where v = 5", "select * from t where k = 1000000",
		"select * from t where k = 0000003", "select * from t where k = 3.0", "select * from t where k = '3'", "select * from t where k = $1", "select * from " + strings.Repeat("x", 31),
		"select * from t ';'", "select * from t \";\"", "values (1)", "table t", "with x as (select 1) select 2", "select 1 into t",
		"insert into t values (1)", "insert into t values (1, 2), (3, 4)", "insert into t values (-1, 2)", "insert into t select * from t", "insert into t values (1, 2) returning *",
		"update t set v = v + 2 where k = 3", "update t set v = v + 1", "update t set v = 1 where k = 3", "delete t", "delete from t where v = 5", "truncate t", "merge into t",
		"create table t (k int)", "create table \"u\"", "create table select", "create table insert", "drop table t", "start", "start over", "rollback to a", "foo", "'a'", "1", "\"begin\"", "( select 1 )", "explain select 1", "$1",
	}
}

// P21.2: a statement that is no command
func TestExecNoCommand(t *testing.T) {
	for _, sql := range noCommands() {
		d := database(t, tables("t 3=5")...)
		keeps(t, d, func() { asks(t, d, 1, sql, "E 4 | Z I") })
		asks(t, d, 1, "begin", "C BEGIN | Z T")
		asks(t, d, 1, "insert into t values (4, 4)", "C INSERT 0 1 | Z T")
		asks(t, d, 2, "begin", "C BEGIN | Z T")
		asks(t, d, 1, sql, "E 4 | Z E")
		if got := d.Written(1); !slices.Equal(got, []string{"t"}) {
			t.Errorf("1 wrote %q", got)
		}
		keeps(t, d, func() {
			asks(t, d, 1, sql, "E 13 | Z E")
			asks(t, d, 2, "select * from t", "T 3=5 | Z T")
		})
		asks(t, d, 1, "commit", "E 13 | Z I")
		committed(t, d, "t 3=5")
	}
}

// volatiles are texts that read, and must not be kept.
func volatiles() []string {
	return []string{"select now()", "select * from t for update", "SELECT * FROM t FOR SHARE;", "select pg_sleep(1)", "values (random ())", "select nextval('a')"}
}

// P21.2: Volatile
func TestExecVolatile(t *testing.T) {
	for _, sql := range volatiles() {
		d := database(t, tables("t 3=5")...)
		keeps(t, d, func() { asks(t, d, 1, sql, "E 5 | Z I") })
		asks(t, d, 1, "begin", "C BEGIN | Z T")
		asks(t, d, 1, "delete from t", "C DELETE | Z T")
		asks(t, d, 1, sql, "E 5 | Z E")
		keeps(t, d, func() { asks(t, d, 1, sql, "E 13 | Z E") })
		asks(t, d, 1, "rollback", "C ROLLBACK | Z I")
		committed(t, d, "t 3=5")
	}
}

// P21.2: the first and the last session, and each by itself
func TestExecSessions(t *testing.T) {
	d := database(t, tables("t 3=5")...)
	for i, id := range []int{0, 1, 2, 999, 1000} {
		asks(t, d, id, "select * from t", "T 3=5 | Z I")
		asks(t, d, id, "begin", "C BEGIN | Z T")
		asks(t, d, id, fmt.Sprintf("insert into t values (3, %d)", i), "C INSERT 0 1 | Z T")
	}
	for i, id := range []int{0, 1, 2, 999, 1000} {
		asks(t, d, id, "select * from t", fmt.Sprintf("T 3=%d | Z T", i))
	}
	asks(t, d, 500, "select * from t", "T 3=5 | Z I")
	asks(t, d, 1000, "end", "C COMMIT | Z I")
	asks(t, d, 500, "select * from t", "T 3=4 | Z I")
}

// P21.2: a database that trans.New did not give, or a number that is no session's
func TestExecForeign(t *testing.T) {
	d := database(t, tables("t 3=5")...)
	asks(t, d, 0, "begin", "C BEGIN | Z T")
	asks(t, d, 0, "insert into t values (4, 4)", "C INSERT 0 1 | Z T")
	asks(t, d, 1000, "begin", "C BEGIN | Z T")
	asks(t, d, 1000, "'", "E 6 | Z E")
	texts := slices.Concat([]string{"begin", "commit", "rollback", "select * from t", "delete from t", "create table u", "'", "a; b"}, empties(), states(), noCommands(), volatiles())
	keeps(t, d, func() {
		for _, sql := range texts {
			for _, id := range []int{-1, -1000, 1001, 1002, 1 << 32, math.MaxInt, math.MinInt} {
				if got := Exec(d, id, sql); len(got) != 0 {
					t.Errorf("%d asks %q: %s", id, sql, show(got...))
				}
			}
			for _, id := range []int{-1, 0, 1, 1000, 1001} {
				for i, foreign := range []*trans.Db{nil, {}, new(trans.Db)} {
					if got := Exec(foreign, id, sql); len(got) != 0 {
						t.Errorf("foreign %d, %d asks %q: %s", i, id, sql, show(got...))
					}
				}
			}
		}
	})
}

// P21.2: a database's copy goes its own way.
func TestExecCopy(t *testing.T) {
	d := database(t, tables("t 3=5")...)
	asks(t, d, 1, "begin", "C BEGIN | Z T")
	asks(t, d, 1, "insert into t values (4, 4)", "C INSERT 0 1 | Z T")
	c := d.Copy()
	keeps(t, d, func() {
		asks(t, c, 1, "select * from t", "T 3=5 4=4 | Z T")
		asks(t, c, 1, "commit", "C COMMIT | Z I")
	})
	committed(t, c, "t 3=5 4=4")
	asks(t, d, 1, "'", "E 6 | Z E")
	asks(t, c, 1, "select * from t", "T 3=5 4=4 | Z I")
}

// P21.3: Rows
func TestRows(t *testing.T) {
	cols := api.Tell{Kind: 'T', Keys: []string{"k", "v"}}
	stop := api.Tell{Kind: 'C', Text: "SELECT 1"}
	bad := aRow("x", "y")
	for i, c := range []struct {
		l    []api.Tell
		want string
	}{
		{[]api.Tell{cols}, ""},
		{[]api.Tell{cols, stop}, ""},
		{[]api.Tell{{Kind: 'T'}}, ""},
		{[]api.Tell{{Kind: 'T', Keys: []string{"a"}, N: 3}, aRow("3", "5")}, "3=5"},
		{[]api.Tell{cols, aRow("3", "5"), aRow("4", "6"), stop}, "3=5 4=6"},
		// In the order in which they are told, also the same one twice.
		{[]api.Tell{cols, aRow("4", "6"), aRow("3", "5"), aRow("4", "6")}, "4=6 3=5 4=6"},
		{[]api.Tell{cols, aRow("0", "999999"), aRow("999999", "0"), aRow("10", "100000")}, "0=999999 999999=0 10=100000"},
		{[]api.Tell{cols, aRow("12345", "1234")}, "12345=1234"},
		// Ds ahead of the first T, behind what is none, and behind a second T, don't count.
		{[]api.Tell{aRow("1", "1"), bad, stop, cols, aRow("3", "5")}, "3=5"},
		{[]api.Tell{cols, aRow("3", "5"), stop, aRow("4", "6"), bad}, "3=5"},
		{[]api.Tell{cols, stop, bad}, ""},
		{[]api.Tell{cols, cols, aRow("3", "5")}, ""},
		{[]api.Tell{cols, aRow("3", "5"), cols, aRow("4", "6")}, "3=5"},
		{[]api.Tell{cols, {Kind: 'd'}, bad}, ""},
		{[]api.Tell{cols, {}, bad}, ""},
	} {
		rows, ok := Rows(c.l)
		if !ok || !slices.Equal(rows, rowsOf(strings.Fields(c.want)...)) {
			t.Errorf("%d: Rows = %v, %t, want %s", i, rows, ok, c.want)
		}
	}
}

// P21.3: Rows of lists that tell none
func TestRowsNone(t *testing.T) {
	cols := api.Tell{Kind: 'T', Keys: []string{"k", "v"}}
	none := func(l ...api.Tell) {
		t.Helper()
		if rows, ok := Rows(l); len(rows) != 0 || ok {
			t.Errorf("Rows(%s) = %v, %t", show(l...), rows, ok)
		}
	}
	none()
	none(api.Tell{})
	none(aRow("3", "5"))
	none(api.Tell{Kind: 't'}, aRow("3", "5"), api.Tell{Kind: 'C'}, api.Tell{Kind: 'Z', Status: 'I'})
	wrong := []string{"", "00", "01", "007", "000001", "1000000", "0000000", "9999999", "12345678", "-1", "-0", "+1", "+0", " 1", "1 ", "1.0", "1e3", "0x1", "1_0", "a", "１", "٣", "1\x00", "\xff", "18446744073709551617", strings.Repeat("1", 5000)}
	var bad []api.Tell
	for _, s := range wrong {
		bad = append(bad, aRow(s, "1"), aRow("1", s), aRow(s, s))
	}
	bad = append(bad,
		api.Tell{Kind: 'D'},
		api.Tell{Kind: 'D', Vals: []string{"1"}, Null: []bool{false}},
		api.Tell{Kind: 'D', Vals: []string{"1", "1", "1"}, Null: []bool{false, false, false}},
		api.Tell{Kind: 'D', Vals: []string{"1", "1"}, Null: []bool{true, false}},
		api.Tell{Kind: 'D', Vals: []string{"1", "1"}, Null: []bool{false, true}},
		api.Tell{Kind: 'D', Vals: []string{"1", "1"}, Null: []bool{true, true}},
		api.Tell{Kind: 'D', Vals: []string{"", "1"}, Null: []bool{true, false}},
		api.Tell{Kind: 'D', Vals: []string{"1", "1"}, Null: []bool{true}},
		api.Tell{Kind: 'D', Keys: []string{"1", "1"}},
	)
	for _, b := range bad {
		none(cols, b)
		none(cols, b, aRow("3", "5"))
		none(cols, aRow("3", "5"), b, api.Tell{Kind: 'C'})
		none(cols, aRow("3", "5"), aRow("4", "6"), b)
		none(cols, b, cols, aRow("3", "5"))
	}
}

// P21.3: Rows of rows of which Null does not say as much as there are Vals
func TestRowsNull(t *testing.T) {
	for _, null := range [][]bool{nil, {}, {false}} {
		rows, ok := Rows([]api.Tell{{Kind: 'T'}, {Kind: 'D', Vals: []string{"3", "5"}, Null: null}})
		if !ok || !slices.Equal(rows, rowsOf("3=5")) {
			t.Errorf("Null %v: %v, %t", null, rows, ok)
		}
	}
}

// P21.3: Status
func TestStatus(t *testing.T) {
	z := func(status byte) api.Tell { return api.Tell{Kind: 'Z', Status: status} }
	for i, c := range []struct {
		l    []api.Tell
		want byte
	}{
		{nil, 0},
		{[]api.Tell{{}}, 0},
		{[]api.Tell{z('I')}, 'I'},
		{[]api.Tell{z('T')}, 'T'},
		{[]api.Tell{z('E')}, 'E'},
		{[]api.Tell{z('I'), z('T')}, 'T'},
		{[]api.Tell{z('T'), {Kind: 'C', Text: "BEGIN"}, z('E')}, 'E'},
		{[]api.Tell{z('T'), {Kind: 'C', Text: "BEGIN"}}, 0},
		{[]api.Tell{{Kind: 'z', Status: 'I'}}, 0},
		{[]api.Tell{z('T'), {Kind: 'C', Status: 'I'}}, 0},
		{[]api.Tell{z('T'), {Status: 'I'}}, 0},
		{[]api.Tell{z('T'), z(0)}, 0},
	} {
		if got := Status(c.l); got != c.want {
			t.Errorf("%d: Status = %q, want %q", i, got, c.want)
		}
	}
}

// P21.3: Failed
func TestFailed(t *testing.T) {
	other := Fault(5)
	other.Vals[2] = "error 6"
	notice := Fault(5)
	notice.Kind = 'N'
	for i, c := range []struct {
		l    []api.Tell
		want api.Errno
	}{
		{nil, api.OK},
		{told("C BEGIN | Z T"), api.OK},
		{told("E 7 | Z I"), 7},
		{told("E 999"), 999},
		{told("C BEGIN | E 8 | E 9 | Z I"), 8},
		{told("Z I | E 16"), 16},
		{[]api.Tell{other}, api.OK},
		{[]api.Tell{notice}, api.OK},
		{[]api.Tell{{Kind: 'E'}, other, notice, {}, Fault(9), Fault(8)}, 9},
		{[]api.Tell{Fault(api.OK)}, api.OK},
		{[]api.Tell{Fault(1000)}, api.OK},
		{[]api.Tell{Fault(-5)}, api.OK},
	} {
		if got := Failed(c.l); got != c.want {
			t.Errorf("%d: Failed(%s) = %d, want %d", i, show(c.l...), got, c.want)
		}
	}
}
