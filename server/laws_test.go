package server

import (
	"fmt"
	"maps"
	"math/rand"
	"slices"
	"strconv"
	"strings"
	"testing"

	"pontoon/api"
	"pontoon/back"
	"pontoon/state"
	"pontoon/trans"
)

// said is a text, and what is known of it.
type said struct {
	sql     string
	wrong   api.Errno // what sets.Parse says of it
	class   int
	c       api.Cmd
	command bool
}

// known are texts that are no commands, each with what is known of it.
func known() []said {
	var l []said
	of := func(class int, texts ...string) {
		for _, sql := range texts {
			l = append(l, said{sql: sql, class: class})
		}
	}
	of(api.Begin, "begin", "start transaction")
	of(api.Commit, "commit", "end;")
	of(api.Rollback, "rollback", "abort")
	of(api.Empty, empties()...)
	of(api.State, states()...)
	of(api.Volatile, volatiles()...)
	of(api.Read, "select 1", "table t", "select k from t100")
	of(api.Write, "insert into t100 values (1)", "truncate t")
	of(api.Unknown, "foo", "start", "drop table t100", "rollback to a")
	for _, sql := range slices.Sorted(maps.Keys(wrongTexts())) {
		l = append(l, said{sql: sql, wrong: wrongTexts()[sql]})
	}
	return l
}

// anySaid is a text: mostly a command, on few tables and keys.
func anySaid(r *rand.Rand, others []said) said {
	switch n := r.Intn(30); {
	case n < 3:
		return others[r.Intn(2)]
	case n < 5:
		return others[2+r.Intn(2)]
	case n == 5:
		return others[4+r.Intn(2)]
	case n == 6:
		return others[r.Intn(len(others))]
	}
	c := api.Cmd{Kind: 1 + r.Intn(5), Table: "t" + strconv.Itoa(100+r.Intn(10))}
	class := api.Write
	switch c.Kind {
	case api.Get:
		class, c.Keyed = api.Read, r.Intn(2) == 0
	case api.Put:
		c.Keyed, c.V = true, r.Intn(2)+999998*r.Intn(2)
	case api.Add:
		c.Keyed = true
	case api.Del:
		// Mostly of one key, so that rows are left.
		c.Keyed = r.Intn(6) > 0
	case api.New:
		// Mostly ones that are not there yet, so that there come to be too many.
		class, c.Table = api.Unknown, "t"+strconv.Itoa(108+r.Intn(14))
	}
	if c.Keyed {
		c.K = r.Intn(4) * 333333
	}
	return said{sql: anyWay(r, state.Text(c)), class: class, c: c, command: true}
}

// anyWay is a text written in another way that says the same.
func anyWay(r *rand.Rand, sql string) string {
	switch r.Intn(4) {
	case 0:
		return strings.ToUpper(sql) + ";"
	case 1:
		return ";" + strings.ReplaceAll(sql, " ", "\n") + " ; ;"
	case 2:
		return strings.ReplaceAll(sql, " ", "/* ; */") + " -- '"
	}
	return sql
}

// byWords is what the chapter says that a session is told, and lets a database do it.
func byWords(d *trans.Db, id int, s said) string {
	fault := func(err api.Errno) string { return "E " + strconv.Itoa(int(err)) }
	end := func(answer string) string { return answer + " | Z " + string(d.Status(id)) }
	if s.wrong == api.OK && !s.command && slices.Contains([]int{api.Read, api.Write, api.Unknown}, s.class) {
		s.wrong = api.ErrForm
	}
	if s.wrong != api.OK {
		if d.Status(id) == 'E' {
			return end(fault(api.ErrFail))
		}
		d.Run(id, 99, api.Cmd{})
		return end(fault(s.wrong))
	}
	rows, err := d.Run(id, s.class, s.c)
	if err != api.OK {
		return end(fault(err))
	}
	if s.command && s.c.Kind == api.Get {
		answer := "T"
		for _, r := range rows {
			answer += fmt.Sprintf(" %d=%d", r.K, r.V)
		}
		return end(answer)
	}
	if s.command {
		return end([]string{api.Put: "C INSERT 0 1", api.Add: "C UPDATE", api.Del: "C DELETE", api.New: "C CREATE TABLE"}[s.c.Kind])
	}
	return end([]string{api.Empty: "I", api.Begin: "C BEGIN", api.Commit: "C COMMIT", api.Rollback: "C ROLLBACK", api.State: "C SET"}[s.class])
}

// agree checks that two databases have the same.
func agree(t *testing.T, d, e *trans.Db, ids int) {
	t.Helper()
	same := state.Same(d.Committed(), e.Committed())
	for id := range ids {
		same = same && d.Status(id) == e.Status(id) && state.Same(d.Sees(id), e.Sees(id)) && slices.Equal(d.Written(id), e.Written(id))
	}
	if !same {
		t.Fatalf("%swant\n%s", everything(d), everything(e))
	}
}

// lawful checks what holds of all that is told.
func lawful(t *testing.T, d *trans.Db, id int, l []api.Tell) {
	t.Helper()
	faults := 0
	for i, tell := range l {
		if !back.Right(tell) {
			t.Fatalf("not right: %s", show(tell))
		}
		if tell.Kind == 'E' {
			faults++
		}
		if (tell.Kind == 'Z') != (i == len(l)-1) {
			t.Fatalf("a Z not just at the end: %s", show(l...))
		}
	}
	if faults > 1 || (faults > 0) != (Failed(l) != api.OK) || Status(l) != d.Status(id) || len(l) < 2 {
		t.Fatalf("%d faults, Failed %d, Status %q: %s", faults, Failed(l), Status(l), show(l...))
	}
	if _, ok := Rows(l); ok != (l[0].Kind == 'T') {
		t.Fatalf("rows %t of %s", ok, show(l...))
	}
}

// P21.2, P21.4: what random sessions are told, against the chapter's words
func TestLaws(t *testing.T) {
	r := rand.New(rand.NewSource(21))
	others := known()
	const ids = 4
	type way struct {
		class, kind int
		err         api.Errno
		before      byte
	}
	ways := map[way]int{}
	for range 300 {
		var s []api.Table
		for i := range r.Intn(17) {
			s = append(s, api.Table{Name: "t" + strconv.Itoa(100+i)})
		}
		d, e := database(t, s...), database(t, s...)
		for range 100 {
			id, s := r.Intn(ids), anySaid(r, others)
			before := d.Status(id)
			got := Exec(d, id, s.sql)
			if want := byWords(e, id, s); show(got...) != show(told(want)...) {
				t.Fatalf("%d asks %q: %s, want %s", id, s.sql, show(got...), want)
			}
			agree(t, d, e, ids)
			lawful(t, d, id, got)
			ways[way{s.class, s.c.Kind, Failed(got), before}]++
			if r.Intn(30) == 0 {
				d = d.Copy()
			}
		}
	}
	for _, w := range []way{
		{api.Begin, 0, api.OK, 'I'}, {api.Begin, 0, api.ErrState, 'T'}, {api.Begin, 0, api.ErrState, 'E'},
		{api.Commit, 0, api.OK, 'T'}, {api.Commit, 0, api.ErrFull, 'T'}, {api.Commit, 0, api.ErrFail, 'E'}, {api.Commit, 0, api.ErrState, 'I'},
		{api.Read, api.Get, api.OK, 'I'}, {api.Read, api.Get, api.OK, 'T'}, {api.Read, api.Get, api.ErrNone, 'I'}, {api.Read, api.Get, api.ErrNone, 'T'}, {api.Read, api.Get, api.ErrFail, 'E'},
		{api.Write, api.Put, api.OK, 'I'}, {api.Write, api.Put, api.OK, 'T'}, {api.Write, api.Add, api.ErrBig, 'T'}, {api.Write, api.Del, api.OK, 'T'},
		{api.Unknown, api.New, api.OK, 'T'}, {api.Unknown, api.New, api.ErrTwice, 'T'}, {api.Unknown, api.New, api.ErrFull, 'T'}, {api.Unknown, api.New, api.ErrFull, 'I'},
	} {
		if ways[w] == 0 {
			t.Errorf("none of %+v", w)
		}
	}
}

// P21.3, P21.4: what was put is told.
func TestPutIsTold(t *testing.T) {
	r := rand.New(rand.NewSource(214))
	for range 200 {
		d := database(t, tables("t", "u 7=7")...)
		if r.Intn(2) == 0 {
			asks(t, d, 1, "begin", "C BEGIN | Z T")
		}
		rows := map[int]int{}
		for range r.Intn(80) {
			k, v := r.Intn(1000000)>>r.Intn(20), r.Intn(1000000)>>r.Intn(20)
			l := Exec(d, 1, fmt.Sprintf("insert into t values (%d, %d)", k, v))
			if _, there := rows[k]; !there && len(rows) == api.MaxRows {
				if Failed(l) != api.ErrFull {
					t.Fatalf("put into a full table: %s", show(l...))
				}
				break
			}
			rows[k] = v
			if Failed(l) != api.OK || l[0].Text != "INSERT 0 1" {
				t.Fatalf("put: %s", show(l...))
			}
			got, ok := Rows(Exec(d, 1, fmt.Sprintf("select * from t where k = %d", k)))
			if !ok || !slices.Equal(got, []api.Row{{K: k, V: v}}) {
				t.Fatalf("put %d=%d, told %v, %t", k, v, got, ok)
			}
		}
		if d.Status(1) == 'E' {
			continue
		}
		var want []api.Row
		for _, k := range slices.Sorted(maps.Keys(rows)) {
			want = append(want, api.Row{K: k, V: rows[k]})
		}
		if got, ok := Rows(Exec(d, 1, "select * from t")); !ok || !slices.Equal(got, want) {
			t.Fatalf("told %v, %t, want %v", got, ok, want)
		}
		asks(t, d, 1, "select * from u", "T 7=7 | Z "+string(d.Status(1)))
	}
}

// spoil writes over all lists within messages, and the room behind them.
func spoil(l []api.Tell) {
	l = l[:cap(l)]
	for i := range l {
		for _, texts := range [][]string{l[i].Keys, l[i].Vals} {
			texts = texts[:cap(texts)]
			for j := range texts {
				texts[j] = "spoilt"
			}
		}
		null := l[i].Null[:cap(l[i].Null)]
		for j := range null {
			null[j] = !null[j]
		}
		l[i] = api.Tell{Kind: '?', Text: "spoilt"}
	}
}

// R4: what is told is new memory, and no two lists of it share any.
func TestToldIsNew(t *testing.T) {
	d := database(t, tables("t 3=5 4=6 5=5")...)
	for _, sql := range []string{"select * from t", "select 1", "commit", "set a", "", "insert into t values (3, 5)"} {
		before := show(Exec(d, 1, sql)...)
		keeps(t, d, func() {
			spoil(Exec(d, 1, sql))
			if after := show(Exec(d, 1, sql)...); after != before {
				t.Errorf("%q: spoilt is %s, was %s", sql, after, before)
			}
		})
		for at := range Exec(d, 1, sql) {
			l, fresh := Exec(d, 1, sql), Exec(d, 1, sql)
			spoil(l[at : at+1 : at+1])
			for i := range l {
				if i != at && show(l[i]) != show(fresh[i]) {
					t.Errorf("%q: %d shares with %d", sql, i, at)
				}
			}
		}
	}
	spoil([]api.Tell{Fault(5), Fault(7)})
	if got := show(Fault(5)); got != show(told("E 5")...) {
		t.Errorf("a spoilt fault is %s", got)
	}
	l := told("T 3=5 4=6")
	rows, _ := Rows(l)
	rows = append(rows, api.Row{})
	for i := range rows {
		rows[i] = api.Row{K: -1, V: -1}
	}
	if again, ok := Rows(l); !ok || !slices.Equal(again, rowsOf("3=5", "4=6")) {
		t.Errorf("spoilt rows are %v, %t", again, ok)
	}
}

// R4: what is handed in stays as it was.
func TestHandedInStays(t *testing.T) {
	l := append(told("C BEGIN | T 3=5 4=6 | E 5 | Z I"), aRow("01", "1"), api.Tell{Kind: 'Z', Status: 'T', Null: []bool{true, true, true}})
	for at := range len(l) + 1 {
		part := l[:at]
		before := show(l...)
		Rows(part)
		Status(part)
		Failed(part)
		for _, tell := range part {
			Errno(tell)
		}
		if after := show(l...); after != before {
			t.Fatalf("%s became %s", before, after)
		}
	}
}

// R1: tells of all sorts are read without a panic, and Rows agrees with the chapter's words.
func TestAnyTells(t *testing.T) {
	r := rand.New(rand.NewSource(213))
	texts := []string{"", "0", "1", "7", "42", "999999", "1000000", "01", "-1", "x", "ERROR", "error 7", "7"}
	anyTexts := func() []string {
		var l []string
		for range r.Intn(4) {
			l = append(l, texts[r.Intn(len(texts))])
		}
		return l
	}
	yes, no := 0, 0
	for range 100000 {
		var l []api.Tell
		for range r.Intn(6) {
			tell := aRow(texts[r.Intn(6)], texts[1+r.Intn(5)])
			switch r.Intn(6) {
			case 0:
				tell = api.Tell{Kind: "TDEZC"[r.Intn(5)], Status: "IT\x00"[r.Intn(3)], Keys: anyTexts(), Vals: anyTexts()}
			case 1, 2:
				tell = api.Tell{Kind: 'T'}
			case 3:
				tell = Fault(api.Errno(r.Intn(3)) + 998)
			}
			l = append(l, tell)
		}
		rows, ok := Rows(l)
		want, is := rowsByWords(l)
		if ok != is || !slices.Equal(rows, want) {
			t.Fatalf("Rows(%s) = %v, %t, want %v, %t", show(l...), rows, ok, want, is)
		}
		if ok {
			yes++
		} else {
			no++
		}
		Status(l)
		Failed(l)
	}
	if yes < 10000 || no < 10000 {
		t.Errorf("%d with rows, %d without", yes, no)
	}
}

// rowsByWords is what the chapter says that Rows answers.
func rowsByWords(l []api.Tell) ([]api.Row, bool) {
	for len(l) > 0 && l[0].Kind != 'T' {
		l = l[1:]
	}
	if len(l) == 0 {
		return nil, false
	}
	var rows []api.Row
	for _, tell := range l[1:] {
		if tell.Kind != 'D' {
			return rows, true
		}
		if len(tell.Vals) != 2 {
			return nil, false
		}
		var n [2]int
		for i, v := range tell.Vals {
			for _, digit := range []byte(v) {
				if digit < '0' || digit > '9' {
					return nil, false
				}
				n[i] = 10*n[i] + int(digit-'0')
			}
			if len(v) < 1 || len(v) > 6 || len(v) > 1 && v[0] == '0' || i < len(tell.Null) && tell.Null[i] {
				return nil, false
			}
		}
		rows = append(rows, api.Row{K: n[0], V: n[1]})
	}
	return rows, true
}
