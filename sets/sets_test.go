package sets

import (
	"math"
	"math/rand"
	"regexp"
	"slices"
	"strconv"
	"strings"
	"testing"
	"unsafe"

	"pontoon/api"
	"pontoon/class"
	"pontoon/lexer"
	"pontoon/norm"
)

// letters are the kinds of tokens, each by a letter; the last two are none of the five.
var letters = map[string]int{"w": api.Word, "q": api.Quoted, "t": api.Str, "n": api.Num, "s": api.Sign, "-": 0, "+": 6}

// tokens makes tokens without places, from pairs of a kind's letter and a text.
func tokens(pairs ...string) []api.Token {
	var l []api.Token
	for i := 0; i < len(pairs); i += 2 {
		l = append(l, api.Token{Kind: letters[pairs[i]], Text: pairs[i+1]})
	}
	return l
}

// strangeKinds are kinds of tokens that are neither Words, nor Quoteds, nor Signs.
var strangeKinds = []int{api.Str, api.Num, 0, 6, -1, -api.Word, -api.Quoted, api.Word + 256, 1<<32 + api.Word, 1<<32 + api.Quoted, math.MaxInt, math.MinInt}

// scan is the tokens of a text that is right.
func scan(t *testing.T, s string) []api.Token {
	t.Helper()
	l, e, _ := lexer.Scan(s)
	if e != api.OK {
		t.Fatalf("Scan(%q): error %d", s, e)
	}
	return l
}

// names is a list from a text with blanks between; "" stands for the empty name.
func names(s string) []string {
	l := strings.Fields(s)
	for i := range l {
		if l[i] == `""` {
			l[i] = ""
		}
	}
	return l
}

// reads asks whether texts read such tables.
func reads(t *testing.T, want string, texts ...string) {
	t.Helper()
	for _, s := range texts {
		if got := Reads(scan(t, s)); !slices.Equal(got, names(want)) {
			t.Errorf("Reads of %q = %q, want %q", s, got, want)
		}
	}
}

// writes asks whether texts write such tables.
func writes(t *testing.T, want string, texts ...string) {
	t.Helper()
	for _, s := range texts {
		if got := Writes(scan(t, s)); !slices.Equal(got, names(want)) {
			t.Errorf("Writes of %q = %q, want %q", s, got, want)
		}
	}
}

// P7.1, P7.2: the examples of the chapter
func TestExamples(t *testing.T) {
	reads(t, "C a b", `select * from a, b x join "C" using (k)`)
	writes(t, "", `select * from a, b x join "C" using (k)`)
	reads(t, "u", "insert into s.t select 1 from u")
	writes(t, "s.t", "insert into s.t select 1 from u")
}

// behindReads are what names that are read stand behind, each behind something that is read as nothing.
var behindReads = []string{"select x from", "a join", "a using", "from", "join", "using", "table", "delete x from", "x FROM", "x /**/ Join--\n"}

// behindWrites are what names that are written stand behind.
var behindWrites = []string{"insert into", "update", "delete from", "truncate", "into", "INTO", "merge into", "x update", "x delete\nfrom", "x Truncate"}

// P7.1, P7.2: names behind each of the words
func TestOneName(t *testing.T) {
	for _, one := range []string{"t", "T", "\"t\"", "only t", "table t", "t x", "t as x", "t \"x\"", "t where a", "t (a, b)", "t;", "t)", "t, ", "t 'x', b", "t -- , b"} {
		for _, first := range behindReads {
			reads(t, "t", first+" "+one, first+" "+one+" where b, c")
		}
		for _, first := range behindWrites {
			writes(t, "t", first+" "+one, first+" "+one+" where b, c")
		}
	}
	for _, s := range []string{"t", "select t", "into t", "update t", "truncate t", "on t", "x t", "\"from\" t", "'join' t", "$$using$$ t", "froms t", "x table t"} {
		reads(t, "", s)
	}
	for _, s := range []string{"t", "from t", "join t", "using t", "table t", "select t from u", "\"into\" t", "'update' t", "\"truncate\" t", "updates t", "delete t", "insert t"} {
		writes(t, "", s)
	}
}

// P7.1, P7.2: what is told of lists of names
func TestLists(t *testing.T) {
	for list, want := range map[string]string{
		"a, b":                           "a b",
		"b, a":                           "a b",
		"a,b,c":                          "a b c",
		"a x, b":                         "a b",
		"a as x, b":                      "a b",
		"a AS x, b AS y, c":              "a b c",
		"a as, b":                        "a b",
		"a as \"x\", b":                  "a b",
		"a as \"select\", b":             "a b",
		"a \"As\", b":                    "a b",
		"a x y, b":                       "a",
		"a as as, b":                     "a",
		"a as x y, b":                    "a",
		"a as x as y, b":                 "a",
		"a x as y, b":                    "a",
		"a as only, b":                   "a",
		"a only b, c":                    "a",
		"a where, b":                     "a",
		"a as where, b":                  "a",
		"a (x), b":                       "a",
		"a x (y), b":                     "a",
		"a 1, b":                         "a",
		"a 'x', b":                       "a",
		"a = x, b":                       "a",
		"a * , b":                        "a",
		"a; b":                           "a",
		"a;, b":                          "a",
		"a x.y, b":                       "a",
		"a as x.y, b":                    "a",
		"a \"x\".\"y\", b":               "a",
		"a x., b":                        "a",
		"a x.select, b":                  "a",
		"a x.1, b":                       "a",
		"a .x, b":                        "a.x b",
		"a as .x, b":                     "a",
		"a, only b":                      "a b",
		"a, table b":                     "a b",
		"only a, only b x, table c":      "a b c",
		"a, only":                        "a",
		"a, only, b":                     "a",
		"a, only only b":                 "a",
		"a, table only b":                "a",
		"a, only table b":                "a",
		"a, lateral b":                   "a",
		"a, only lateral b":              "a",
		"a, (select 1), b":               "a",
		"a,":                             "a",
		"a,, b":                          "a",
		"a, , b":                         "a",
		"a, 1, b":                        "a",
		"a, 'b', c":                      "a",
		"a, $1, c":                       "a",
		"a, where, b":                    "a",
		"a, \"where\", b":                "a b where",
		"s.a, b":                         "b s.a",
		"s.a x, s.b":                     "s.a s.b",
		"s.a as x, t.a y, u.a":           "s.a t.a u.a",
		"s.a.b, c":                       "s.a",
		"s.a.b x, c":                     "s.a",
		"s., b":                          "s",
		"s. , b":                         "s",
		"s.":                             "s",
		"s.select, b":                    "s",
		"s.as x, b":                      "s",
		"s.only, b":                      "s",
		"s.\"select\", b":                "b s.select",
		"s.1, b":                         "s",
		"s.'a', b":                       "s",
		"s..a, b":                        "s",
		"s.*":                            "s",
		"s . a, s/**/./**/b":             "s.a s.b",
		"\"s\".a, \"S\".\"B\", s.\"B\"":  "S.B s.B s.a",
		"only s.a, table s.b":            "s.a s.b",
		"a a, a as a, a":                 "a",
		"b, a, b, A, \"a\", \"A\"":       "A a b",
		"b b, b as b, a b":               "a b",
		"c, b, a, c, b, a":               "a b c",
		"s.t, t, s, \"s.t\", s.t":        "s s.t t",
		"\"a.b\".c, a.\"b.c\"":           "a.b.c",
		"a1, a, a$, a_, aa, ab, \"a\"":   "a a$ a1 a_ aa ab",
		"\"B\", a, \"Z\", _, \xff, é, z": "B Z _ a z é \xff",
		"\"\", a, \"\".\"\"":             "\"\" . a",
		"\"\" x, b":                      "\"\" b",
		"a \"\", b":                      "a b",
		"\"only\", \"table\" a":          "only table",
		"select, a":                      "",
		"(a, b)":                         "",
		"('a', b)":                       "",
		"1, a":                           "",
		"'a', b":                         "",
		"$1, b":                          "",
		", a":                            "",
		".a, b":                          "",
		"as a, b":                        "",
		"only":                           "",
		"table":                          "",
		"only table a":                   "",
		"table only a":                   "",
		"table table a":                  "",
		"only only a":                    "",
		"only (a), b":                    "",
		"only 'a', b":                    "",
		"\"only\" a, b":                  "b only",
		"\"table\" a, b":                 "b table",
		"lateral a, b":                   "",
		"":                               "",
		";":                              "",
		"insert, delete, merge":          "delete insert merge",
		"all distinct, on":               "all",
	} {
		for _, first := range behindReads {
			reads(t, want, first+" "+list)
		}
		writes(t, want, "truncate "+list, "x truncate "+list, "truncate 1 truncate "+list)
	}
}

// P7.2: behind into, update and delete from the first name alone counts
func TestWritesFirst(t *testing.T) {
	for _, first := range []string{"insert into", "into", "merge into", "update", "delete from", "x into"} {
		for list, want := range map[string]string{
			"a, b":             "a",
			"b, a":             "b",
			"a x, b":           "a",
			"a as x, b":        "a",
			"only a, b":        "a",
			"table a, b":       "a",
			"only table a":     "",
			"table only a":     "",
			"s.a, b":           "s.a",
			"s.a.b":            "s.a",
			"s., b":            "s",
			"s.select":         "s",
			"\"Select\".\"x\"": "Select.x",
			"\"select\"":       "select",
			"\"\", b":          "\"\"",
			"a x.y, b":         "a",
			"select a":         "",
			"set a = b":        "",
			"values (1)":       "",
			"(a), b":           "",
			", b":              "",
			"'a', b":           "",
			"1, b":             "",
			"$1":               "",
			"":                 "",
		} {
			writes(t, want, first+" "+list)
		}
	}
}

// allKeyWords are the chapter's key words.
const allKeyWords = "select, from, where, join, on, using, group, order, having, limit, offset, union, except, intersect, as, and, or, not, in, is, null, values, set, into, inner, left, right, full, outer, cross, natural, lateral, only, returning, window, for, fetch, when, then, with, table"

// P7.1, P7.2: key words where a name might stand
func TestKeyWords(t *testing.T) {
	all := strings.Split(allKeyWords, ", ")
	if len(all) != 41 {
		t.Fatalf("%d key words", len(all))
	}
	for _, k := range all {
		for _, k := range []string{k, strings.ToUpper(k)} {
			reads(t, "", "x join "+k, "x join only "+k, "x join 1 "+k)
			writes(t, "", "truncate "+k, "update only "+k)
			writes(t, "a", "truncate a, "+k, "truncate a, only "+k, "truncate a "+k+" 1, b", "update a, "+k)
			writes(t, "a", "truncate a."+k+", b", "update a."+k+" 1", "truncate a x."+k+", b")
			reads(t, "a", "x join a."+k+" 1, b")
		}
		if k != "as" {
			writes(t, "a", "truncate a "+k+", b", "truncate a as "+k+", b")
		}
		q := "\"" + k + "\""
		for _, first := range behindReads {
			reads(t, k, first+" "+q, first+" only "+q)
			reads(t, "a b", first+" a "+q+", b", first+" a as "+q+", b")
			reads(t, "a."+k+" b", first+" a."+q+", b")
			reads(t, k+"."+k, first+" "+q+"."+q)
		}
		for _, first := range behindWrites {
			writes(t, k, first+" "+q, first+" table "+q)
			writes(t, k+".a", first+" "+q+".a")
		}
	}
}

// P7.1, P7.2: words that are no key words are names, those among them of which the chapters speak elsewhere
func TestNoKeyWords(t *testing.T) {
	for _, k := range []string{
		"insert", "update", "delete", "truncate", "merge", "all", "distinct", "case", "else", "end", "by", "asc", "desc", "like", "begin",
		"commit", "share", "no", "key", "nowait", "of", "to", "create", "if", "exists", "a", "selects", "selec", "fro", "tables", "onl", "as_",
	} {
		for _, s := range []string{k, strings.ToUpper(k), "only " + k, k + " x", k + " as x", k + " " + k} {
			reads(t, k, "x join "+s)
		}
		reads(t, "a b", "x join a "+k+", b", "x join a as "+k+", b")
		reads(t, "a."+k+" b", "x join a."+k+", b")
		writes(t, k, "into "+k)
	}
	// Those that write are names, too, ahead of what they write.
	writes(t, "a truncate", "truncate truncate a")
	writes(t, "into.update", "into \"into\".update")
	writes(t, "a delete update", "update update a, delete from a; into delete")
}

// P7.1: from right behind delete, and farther behind it
func TestReadsBehindDelete(t *testing.T) {
	reads(t, "", "delete from t", "DELETE FROM t", "delete/**/from only t, u", "x delete from t", "delete from")
	reads(t, "t", "delete x from t", "delete, from t", "\"delete\" from t", "'delete' from t", "delete; from t", "delete from from t", "from t delete", "deletes from t", "delete 1 from t")
	reads(t, "u v", "delete from t using u, v", "delete from t where a in (select b from u, v)", "delete from t, w using u x, only v")
	reads(t, "t u", "delete from t using u, t", "with x as (delete from w returning 1) select * from t, u")
	reads(t, "t", "delete join t", "delete using t")
	writes(t, "t", "delete from t using u, v", "with x as (delete from t) select * from x, t", "select delete from t, u")
	writes(t, "", "delete x from t", "delete, from t", "\"delete\" from t", "'delete' from t", "delete from from t", "from t", "deletes from t", "delete", "delete t")
	writes(t, "t u", "delete from u using x; delete from t")
}

// P7.2: update right behind for, and farther behind it
func TestWritesBehindFor(t *testing.T) {
	writes(t, "", "select a from t for update of u", "for update u", "FOR UPDATE only u", "for/**/update u", "for update", "update", "for update for update u")
	writes(t, "u", "for x update u", "for no key update u", "for, update u", "\"for\" update u", "'for' update u", "for; update u", "for update update u", "update u for update v", "for 1 update u", "fort update u")
	writes(t, "u", "on conflict do update set a = 1; update u", "for update a update u")
	writes(t, "u v", "update v; update u for update")
	// What stands ahead of the others makes no difference.
	writes(t, "u", "for into u", "for truncate u", "for delete from u")
	reads(t, "u", "for from u", "for join u", "for using u")
}

// P7.1: the first Word table, and a second one
func TestTable(t *testing.T) {
	reads(t, "t", "table t", "TABLE t", "table only t", "table table t", "table t union table u", "table t; table u", "table t as x", "table t x (table u)")
	reads(t, "t u v", "table t, u x, table v")
	reads(t, "t u", "table t join u", "table t where a in (select b from u)")
	reads(t, "t", "table where x join t", "table 1 from t", "table (a) using t")
	reads(t, "", "table", "table only", "table only table t", "table table table t", "table 't'", "table (t)", "\"table\" t", "'table' t", "tables t")
	reads(t, "", "truncate table t", "create table t", "x table t", "(table t)", "; table t", "'x' table t", "lock table t", "alter table table t", "with x as (table t) select 1", "select 1 union table t")
	writes(t, "", "table t", "table t, u", "create table t")
	writes(t, "t u", "truncate table t, u", "truncate t, table u")
}

// P7.1, P7.2: more than one list in a statement
func TestManyLists(t *testing.T) {
	reads(t, "a b d f", "select * from a join b on a.x = b.x, c left join d using (x), e natural join f")
	reads(t, "t", "select * from (select * from t) x, u")
	reads(t, "a b", "select (select 1 from a), x from b")
	reads(t, "a b c", "select 1 from a union all select 2 from b, a except select 3 from c")
	reads(t, "d t", "select extract(year from d) from t")
	reads(t, "a b", "from from a, from b", "from a, join b", "a using using a, using b")
	reads(t, "a b", "select 1 from a; select 2 from b")
	writes(t, "a b c d e", "insert into e; update d; delete from c; truncate a, b")
	writes(t, "a", "insert into a; update a; delete from a; truncate a, a, table a")
	writes(t, "a b t", "with x as (insert into b values (1)), y as (update a set b = 1) delete from t using c")
	writes(t, "n", "select a, b into n from t")
	reads(t, "t", "select a, b into n from t")
	writes(t, "temp", "select a into temp n from t")
	// Behind truncate stands a name, or a list that goes on over another truncate.
	writes(t, "a b truncate", "truncate a, truncate, b", "truncate truncate, a, b", "truncate a truncate, truncate b", "truncate a, truncate b")
	writes(t, "a b c", "truncate a truncate b c, c", "truncate a where truncate b, c")
	writes(t, "a truncate.b", "truncate truncate.b, a")
	writes(t, "a b update", "truncate a, update b")
}

// P7.1, P7.2: no tokens, and few
func TestNothing(t *testing.T) {
	for _, l := range [][]api.Token{nil, {}, make([]api.Token, 0, 5)} {
		if got := Reads(l); len(got) != 0 {
			t.Errorf("Reads of %v = %q", l, got)
		}
		if got := Writes(l); len(got) != 0 {
			t.Errorf("Writes of %v = %q", l, got)
		}
		s := Of(l)
		if s.Class != api.Empty || len(s.Reads) != 0 || len(s.Writes) != 0 || s.Norm != "" {
			t.Errorf("Of %v = %v", l, s)
		}
	}
	for _, s := range append(strings.Split(allKeyWords, ", "), "update", "truncate", "delete", ",", ".", ";", "a", "\"a\"", "'a'", "1", "(") {
		reads(t, "", s)
		writes(t, "", s)
	}
}

// P7.1, P7.2: what stands behind a list of tokens is none of it
func TestBehindTheTokens(t *testing.T) {
	room := scan(t, "x from s.t as y, only u z")
	for n, want := range []string{"", "", "", "s", "s", "s.t", "s.t", "s.t", "s.t", "s.t", "s.t u", "s.t u"} {
		if got := Reads(room[:n]); !slices.Equal(got, names(want)) {
			t.Errorf("Reads of %d tokens = %q, want %q", n, got, want)
		}
	}
	room = scan(t, "delete from s.t truncate a, b update u")
	for n, want := range []string{"", "", "", "s", "s", "s.t", "s.t", "a s.t", "a s.t", "a b s.t", "a b s.t", "a b s.t u"} {
		if got := Writes(room[:n]); !slices.Equal(got, names(want)) {
			t.Errorf("Writes of %d tokens = %q, want %q", n, got, want)
		}
	}
	// What stands ahead of them neither.
	room = scan(t, "delete from t for update u x table v")
	if got := Reads(room[1:3]); !slices.Equal(got, []string{"t"}) {
		t.Errorf("%q", got)
	}
	if got := Writes(room[1:3]); len(got) != 0 {
		t.Errorf("%q", got)
	}
	if got := Writes(room[4:6]); !slices.Equal(got, []string{"u"}) {
		t.Errorf("%q", got)
	}
	if got := Reads(room[7:]); !slices.Equal(got, []string{"v"}) {
		t.Errorf("%q", got)
	}
}

// P7.1, P7.2: tokens of other kinds than those asked for
func TestWrongKinds(t *testing.T) {
	line := func(s string) []api.Token { return scan(t, s) }
	// Each place of these, with another kind: what is read then.
	for i, want := range []string{"b c.d f", "", "", "b", "b", "b", "b", "b c", "b c", "b c.d", "b c.d", "b c.d"} {
		for _, kind := range strangeKinds {
			l := line("x from b as a, c.d e, f")
			l[i].Kind = kind
			if got := Reads(l); !slices.Equal(got, names(want)) {
				t.Errorf("place %d of kind %d: %q, want %q", i, kind, got, want)
			}
		}
	}
	for _, kind := range append(slices.Clone(strangeKinds), api.Quoted, api.Sign) {
		for _, s := range []string{"from t", "join t", "using t", "table t"} {
			l := line(s)
			l[0].Kind = kind
			if got := Reads(l); len(got) != 0 {
				t.Errorf("%q, of kind %d: reads %q", s, kind, got)
			}
		}
		for _, s := range []string{"into t", "update t", "truncate t", "delete from t"} {
			l := line(s)
			l[0].Kind = kind
			if got := Writes(l); len(got) != 0 {
				t.Errorf("%q, of kind %d: writes %q", s, kind, got)
			}
		}
		l := line("delete from t")
		l[0].Kind = kind
		if got := Reads(l); !slices.Equal(got, []string{"t"}) {
			t.Errorf("delete of kind %d: reads %q", kind, got)
		}
		l = line("for update t")
		l[0].Kind = kind
		if got := Writes(l); !slices.Equal(got, []string{"t"}) {
			t.Errorf("for of kind %d: writes %q", kind, got)
		}
		// No Quoted here: that would be a name.
		if kind != api.Quoted {
			l = line("x join only t")
			l[2].Kind = kind
			if got := Reads(l); len(got) != 0 {
				t.Errorf("only of kind %d: reads %q", kind, got)
			}
		}
	}
}

// P7.1, P7.2: Words and Signs that no text has
func TestWrongTexts(t *testing.T) {
	for _, s := range []string{"", "SELECT", "From", "a b", " from", "from ", ",", ".", "a.b", "\"a\"", "'", "(", "1", "\x00", "\xff", "only\n"} {
		if got := Reads(tokens("w", "from", "w", s)); !slices.Equal(got, []string{s}) {
			t.Errorf("Word %q: reads %q", s, got)
		}
		if got := Writes(tokens("w", "truncate", "w", s, "s", ".", "w", s, "w", s, "s", ",", "q", s)); !slices.Equal(got, sorted(s+"."+s, s)) {
			t.Errorf("Word %q: writes %q", s, got)
		}
		if got := Reads(tokens("w", s, "w", "t")); len(got) != 0 {
			t.Errorf("Word %q ahead: reads %q", s, got)
		}
		if got := Writes(tokens("w", s, "w", "t")); len(got) != 0 {
			t.Errorf("Word %q ahead: writes %q", s, got)
		}
	}
	for _, s := range []string{"", ",,", ", ", ";", "a", "$1", "..", "\x00"} {
		if got := Reads(tokens("w", "from", "w", "a", "s", s, "w", "b")); !slices.Equal(got, []string{"a"}) {
			t.Errorf("Sign %q: reads %q", s, got)
		}
		if got := Reads(tokens("w", "from", "s", s, "w", "b")); len(got) != 0 {
			t.Errorf("Sign %q first: reads %q", s, got)
		}
	}
	for _, kind := range []int{api.Word, api.Quoted} {
		l := []api.Token{{Kind: api.Word, Text: "from"}, {Kind: api.Word, Text: "a"}, {Kind: kind, Text: ","}, {Kind: api.Word, Text: "b"}}
		if got := Reads(l); !slices.Equal(got, []string{"a"}) {
			t.Errorf(", of kind %d: %q", kind, got)
		}
		l[2].Text = "."
		if got := Reads(l); !slices.Equal(got, []string{"a"}) {
			t.Errorf(". of kind %d: %q", kind, got)
		}
	}
	// Places say nothing.
	l := tokens("w", "from", "w", "b", "s", ",", "w", "a")
	for i := range l {
		l[i].At = -7 * i
	}
	if got := Reads(l); !slices.Equal(got, []string{"a", "b"}) {
		t.Errorf("%q", got)
	}
}

// sorted is a list in rising order, each once.
func sorted(l ...string) []string {
	slices.Sort(l)
	return slices.Compact(l)
}

// of asks what is known of a text.
func of(t *testing.T, s string, class int, reads, writes, form string) {
	t.Helper()
	l := scan(t, s)
	got := Of(l)
	if got.Class != class || !slices.Equal(got.Reads, names(reads)) || !slices.Equal(got.Writes, names(writes)) || got.Norm != form {
		t.Errorf("Of %q = %v", s, got)
	}
	// Of one statement, or of none, Parse says the same, but for Signs ; ahead of it.
	if s != "" && s[0] == ';' {
		return
	}
	p, e := Parse(s)
	if e != api.OK || p.Class != class || !slices.Equal(p.Reads, names(reads)) || !slices.Equal(p.Writes, names(writes)) || p.Norm != form {
		t.Errorf("Parse(%q) = %v, %d", s, p, e)
	}
}

// P7.3: statements of each class
func TestOf(t *testing.T) {
	of(t, "", api.Empty, "", "", "")
	of(t, "-- from t", api.Empty, "", "", "")
	of(t, "SELECT * FROM t WHERE a = 007.50 ;", api.Read, "t", "", "select * from t where a = 7.5")
	of(t, "select 1", api.Read, "", "", "select 1")
	of(t, "table t;;", api.Read, "t", "", "table t")
	of(t, "values (1)", api.Read, "", "", "values ( 1 )")
	of(t, `with "X" as (select 1 from u) select * from "X"`, api.Read, "X u", "", `with "X" as ( select 1 from u ) select * from "X"`)
	of(t, "select now() from t, u", api.Volatile, "t u", "", "select now ( ) from t , u")
	of(t, "select 1 from t for update", api.Volatile, "t", "", "select 1 from t for update")
	of(t, "insert into s.t select 1 from u", api.Write, "u", "s.t", "insert into s . t select 1 from u")
	of(t, "update t set a = 1 from u", api.Write, "u", "t", "update t set a = 1 from u")
	of(t, "delete from t", api.Write, "", "t", "delete from t")
	of(t, "truncate table t, u", api.Write, "", "t u", "truncate table t , u")
	of(t, "merge into t using u on a = b", api.Write, "u", "t", "merge into t using u on a = b")
	of(t, "with x as (delete from t) select * from x, t", api.Write, "t x", "t", "with x as ( delete from t ) select * from x , t")
	of(t, "select 1 into n from t", api.Write, "t", "n", "select 1 into n from t")
	of(t, "insert", api.Write, "", "", "insert")
	// All others have neither, whatever they name.
	of(t, "begin; ", api.Begin, "", "", "begin")
	of(t, "begin from t into u", api.Begin, "", "", "begin from t into u")
	of(t, "start transaction truncate t using u", api.Begin, "", "", "start transaction truncate t using u")
	of(t, "commit from t into u", api.Commit, "", "", "commit from t into u")
	of(t, "rollback from t into u", api.Rollback, "", "", "rollback from t into u")
	of(t, "rollback to t", api.Unknown, "", "", "rollback to t")
	of(t, "set a from t into u", api.State, "", "", "set a from t into u")
	of(t, "declare c cursor for select 1 from t", api.State, "", "", "declare c cursor for select 1 from t")
	of(t, "create table t as select * from u", api.Unknown, "", "", "create table t as select * from u")
	of(t, "(select 1 from t)", api.Unknown, "", "", "( select 1 from t )")
	of(t, "explain delete from t using u", api.Unknown, "", "", "explain delete from t using u")
	of(t, `"select" 1 from t`, api.Unknown, "", "", `"select" 1 from t`)
	of(t, "; select 1 from t", api.Unknown, "", "", "; select 1 from t")
	// A Read tells no Writes, though there may be a truncate.
	of(t, "select truncate t from u", api.Read, "u", "", "select truncate t from u")
	of(t, "select truncate t, now() from u", api.Volatile, "u", "", "select truncate t , now ( ) from u")
}

// P7.3: Signs ; within are tokens as others
func TestOfSeveral(t *testing.T) {
	got := Of(scan(t, "select 1 from a; delete from b; "))
	want := api.Stmt{Class: api.Write, Reads: []string{"a"}, Writes: []string{"b"}, Norm: "select 1 from a ; delete from b"}
	if got.Class != want.Class || !slices.Equal(got.Reads, want.Reads) || !slices.Equal(got.Writes, want.Writes) || got.Norm != want.Norm {
		t.Errorf("%v, want %v", got, want)
	}
}

// P7.3: tokens that no text has
func TestOfWrong(t *testing.T) {
	for _, kind := range append(slices.Clone(strangeKinds), api.Sign) {
		l := []api.Token{{Kind: kind, Text: "select"}, {Kind: api.Word, Text: "from"}, {Kind: api.Word, Text: "t"}}
		got := Of(l)
		if got.Class != api.Unknown || len(got.Reads)+len(got.Writes) != 0 || got.Norm != norm.Tokens(l) {
			t.Errorf("kind %d: %v", kind, got)
		}
	}
	got := Of(tokens("w", "select", "w", "FROM", "w", "t", "w", "from", "w", "A b"))
	if got.Class != api.Read || !slices.Equal(got.Reads, []string{"A b"}) || len(got.Writes) != 0 || got.Norm != "select FROM t from A b" {
		t.Errorf("%v", got)
	}
}

// P7.4: one statement, and none
func TestParse(t *testing.T) {
	for _, s := range []string{"select 1 from t", "select 1 from t;", ";select 1 from t", ";; select 1 from t ; ; ", " /* ; */ select 1 from t -- ;"} {
		got, e := Parse(s)
		if e != api.OK || got.Class != api.Read || !slices.Equal(got.Reads, []string{"t"}) || len(got.Writes) != 0 || got.Norm != "select 1 from t" {
			t.Errorf("Parse(%q) = %v, %d", s, got, e)
		}
	}
	for _, s := range []string{"", " ", ";", ";;;", " ; -- a", "/* a; b */"} {
		got, e := Parse(s)
		if e != api.OK || got.Class != api.Empty || len(got.Reads)+len(got.Writes) != 0 || got.Norm != "" {
			t.Errorf("Parse(%q) = %v, %d", s, got, e)
		}
	}
	got, e := Parse("delete from \"a;b\" where c = ';' or d = $$;$$")
	if e != api.OK || !slices.Equal(got.Writes, []string{"a;b"}) || got.Norm != `delete from "a;b" where c = ';' or d = ';'` {
		t.Errorf("%v, %d", got, e)
	}
}

// P7.4: Scan's errors, and more than one statement
func TestParseErrors(t *testing.T) {
	for s, want := range map[string]api.Errno{
		"{":                                   api.ErrChar,
		"select 1 from t \\":                  api.ErrChar,
		"a $ b":                               api.ErrChar,
		"\x00":                                api.ErrChar,
		"select 1 from t; {":                  api.ErrChar,
		"'":                                   api.ErrQuote,
		"select 1 from \"t":                   api.ErrQuote,
		"delete from t /* /* */":              api.ErrQuote,
		"insert into t values ($a$ $$)":       api.ErrQuote,
		"a; b; 'c":                            api.ErrQuote,
		"a; b":                                api.ErrForm,
		"a;b;":                                api.ErrForm,
		";a;;b":                               api.ErrForm,
		"select 1 from t; select 1":           api.ErrForm,
		"delete from t; delete from t":        api.ErrForm,
		"begin; commit":                       api.ErrForm,
		"a;b;c;d":                             api.ErrForm,
		"select 1;;":                          api.OK,
		strings.Repeat(" ", 2001):             api.ErrBig,
		strings.Repeat("a;", 1001):            api.ErrBig,
		strings.Repeat("{", 2001):             api.ErrBig,
		"'" + strings.Repeat("a", 2000):       api.ErrBig,
		"select " + strings.Repeat("a", 1993): api.OK,
		"select " + strings.Repeat("a", 1994): api.ErrBig,
	} {
		got, e := Parse(s)
		if e != want {
			t.Errorf("Parse(%q): error %d, want %d", s, e, want)
		}
		if e != api.OK && (got.Class != 0 || got.Norm != "" || len(got.Reads)+len(got.Writes) != 0) {
			t.Errorf("Parse(%q) = %v", s, got)
		}
	}
}

// P7.5
func TestMeets(t *testing.T) {
	for _, c := range []struct {
		a, b []string
		want bool
	}{
		{nil, nil, false},
		{nil, []string{}, false},
		{[]string{"a"}, nil, false},
		{[]string{""}, nil, false},
		{[]string{"a"}, []string{}, false},
		{[]string{"a"}, []string{"a"}, true},
		{[]string{"a"}, []string{"b"}, false},
		{[]string{"a"}, []string{"A"}, false},
		{[]string{"a"}, []string{"a."}, false},
		{[]string{"a"}, []string{"aa", " a", "a ", ""}, false},
		{[]string{""}, []string{""}, true},
		{[]string{"", "a"}, []string{"b", ""}, true},
		{[]string{"a", "b", "c"}, []string{"d", "e", "f"}, false},
		{[]string{"a", "b", "c"}, []string{"d", "e", "a"}, true},
		{[]string{"a", "b", "c"}, []string{"d", "b", "e"}, true},
		{[]string{"a", "b", "c"}, []string{"c", "d", "e"}, true},
		{[]string{"c", "b", "a"}, []string{"a", "x"}, true},
		{[]string{"x", "x", "x"}, []string{"y", "y"}, false},
		{[]string{"x", "x"}, []string{"y", "x", "x"}, true},
		{[]string{"s.t"}, []string{"s", "t"}, false},
		{[]string{"s.t"}, []string{"s", "s.t"}, true},
		{[]string{"*"}, []string{"a", "b"}, false},
		{[]string{"*"}, []string{"a", "*"}, true},
		{[]string{"\x00"}, []string{""}, false},
		{[]string{"\xff\x00"}, []string{"\xff\x00"}, true},
	} {
		a, b := slices.Clone(c.a), slices.Clone(c.b)
		if got := Meets(c.a, c.b); got != c.want {
			t.Errorf("Meets(%q, %q) = %v", c.a, c.b, got)
		}
		if got := Meets(c.b, c.a); got != c.want {
			t.Errorf("Meets(%q, %q) = %v", c.b, c.a, got)
		}
		if len(c.a) > 0 && !Meets(c.a, c.a) {
			t.Errorf("%q does not meet itself", c.a)
		}
		if !slices.Equal(a, c.a) || !slices.Equal(b, c.b) {
			t.Errorf("what was handed in became %q, %q", c.a, c.b)
		}
	}
}

// P7.5: each of one with each of the other
func TestMeetsEach(t *testing.T) {
	var a, b []string
	for i := range 50 {
		a = append(a, "a"+strconv.Itoa(i))
		b = append(b, "b"+strconv.Itoa(i))
	}
	for i := range a {
		for k := range b {
			was := b[k]
			b[k] = a[i]
			if !Meets(a, b) || !Meets(b, a) {
				t.Fatalf("%d and %d", i, k)
			}
			b[k] = was
		}
	}
	if Meets(a, b) {
		t.Error("nothing in common")
	}
}

// P7.1 to P7.3: what is handed in stays as it was, the room behind it too
func TestHandedInStays(t *testing.T) {
	room := scan(t, "truncate c, s.b, a as x from c, b, 007 a delete from z, y using w; into table only")
	before := slices.Clone(room)
	for n := range len(room) + 1 {
		l := room[:n]
		Reads(l)
		Writes(l)
		Of(l)
		if !slices.Equal(room, before) {
			t.Fatalf("with %d tokens: %v, want %v", n, room, before)
		}
	}
}

// spoil writes over a list, and over the room behind it.
func spoil(l []string) {
	for i := range l[:cap(l)] {
		l[:cap(l)][i] = "spoilt"
	}
}

// P7.1 to P7.4: what is told goes its own way
func TestToldIsNew(t *testing.T) {
	s := "merge into c using b, a, s.d truncate c, z, y delete from x"
	l := scan(t, s)
	want := Of(l)
	one, other := Of(l), Of(l)
	r, w := Reads(l), Writes(l)
	p, _ := Parse(s)
	spoil(one.Reads)
	if !slices.Equal(one.Writes, want.Writes) {
		t.Errorf("Reads share with Writes: %q", one.Writes)
	}
	spoil(one.Writes)
	spoil(r)
	spoil(w)
	spoil(p.Reads)
	spoil(p.Writes)
	if !slices.Equal(other.Reads, want.Reads) || !slices.Equal(other.Writes, want.Writes) {
		t.Errorf("%q, %q", other.Reads, other.Writes)
	}
	if again := Of(l); !slices.Equal(again.Reads, want.Reads) || !slices.Equal(again.Writes, want.Writes) {
		t.Errorf("%q, %q", again.Reads, again.Writes)
	}
	for i := range l {
		l[i].Text = "q"
	}
	if !slices.Equal(other.Reads, want.Reads) || !slices.Equal(other.Writes, want.Writes) {
		t.Errorf("%q, %q", other.Reads, other.Writes)
	}
}

// P7.1, P7.2: texts that are answered are new memory
func TestTextsAreNew(t *testing.T) {
	l := tokens("w", "from", "w", "aa", "w", "into", "w", "bb")
	if unsafe.StringData(Reads(l)[0]) == unsafe.StringData(l[1].Text) {
		t.Error("Reads: what was handed in")
	}
	if unsafe.StringData(Writes(l)[0]) == unsafe.StringData(l[3].Text) {
		t.Error("Writes: what was handed in")
	}
}

// P7.1, P7.2: long lists end in time, also those that run into one another
func TestLong(t *testing.T) {
	const n = 50000
	piece := func(first string, pairs ...string) []api.Token {
		l := tokens("w", first)
		for range n {
			l = append(l, tokens(pairs...)...)
		}
		return l
	}
	for _, pairs := range [][]string{
		{"w", "truncate", "s", ","},
		{"w", "truncate", "w", "truncate", "s", ","},
		{"w", "truncate", "w", "as", "w", "truncate", "s", ","},
		{"w", "only", "w", "truncate", "s", ","},
		{"w", "truncate", "s", ".", "w", "truncate", "w", "truncate", "s", ","},
	} {
		if got := Writes(piece("truncate", pairs...)); len(got) == 0 || len(got) > 2 {
			t.Errorf("%q: %d names", pairs, len(got))
		}
	}
	for _, pairs := range [][]string{{"w", "from"}, {"w", "a", "s", ","}, {"w", "from", "w", "a", "s", ","}, {"w", "table", "w", "a", "s", ","}} {
		if got := Reads(piece("from", pairs...)); len(got) > 1 {
			t.Errorf("%q: %q", pairs, got)
		}
	}
	l := tokens("w", "from")
	for i := range n {
		l = append(l, tokens("w", strconv.Itoa(i*7919%n), "s", ",")...)
	}
	if got := Reads(l); len(got) != n || !slices.IsSorted(got) {
		t.Errorf("%d names", len(got))
	}
	var a, b []string
	for i := range n {
		a, b = append(a, "a"+strconv.Itoa(i)), append(b, "b"+strconv.Itoa(i))
	}
	if Meets(a, b) {
		t.Error("nothing in common")
	}
}

// pieces are what random statements are made of.
var pieces = []string{
	"from", "from", "join", "using", "into", "update", "truncate", "truncate", "delete", "delete from", "for", "table", "only", "as",
	",", ",", ",", ",", ".", ".", "a", "b", "c", "A", "x", "\"a\"", "\"B\"", "\"from\"", "\"\"", "(", ")", "1", "'a'", "where", "select", "on",
	"select", "insert", "with", "values", "now(", ";",
}

// random is a text of some pieces.
func random(r *rand.Rand) string {
	var l []string
	for range r.Intn(16) {
		l = append(l, pieces[r.Intn(len(pieces))])
	}
	return strings.Join(l, " ")
}

// marks is a letter a token, so that patterns can be asked of them: N a name, O only or table, A as, a comma, a point, K any other.
func marks(l []api.Token) string {
	keys := strings.Split(allKeyWords, ", ")
	s := ""
	for _, k := range l {
		switch {
		case k.Kind == api.Word && (k.Text == "only" || k.Text == "table"):
			s += "O"
		case k.Kind == api.Word && k.Text == "as":
			s += "A"
		case k.Kind == api.Quoted || k.Kind == api.Word && !slices.Contains(keys, k.Text):
			s += "N"
		case k.Kind == api.Sign && (k.Text == "," || k.Text == "."):
			s += k.Text
		default:
			s += "K"
		}
	}
	return s
}

var (
	item = regexp.MustCompile(`^O?(N(?:\.N)?)`)
	next = regexp.MustCompile(`^O?N(?:\.N)?A?N?,`)
)

// listed is the names from a place on, by patterns.
func listed(l []api.Token, at int) []string {
	var all []string
	for {
		rest := marks(l[at:])
		m := item.FindStringSubmatchIndex(rest)
		if m == nil {
			return all
		}
		name := ""
		for _, k := range l[at+m[2] : at+m[3]] {
			name += k.Text
		}
		all = append(all, name)
		m = next.FindStringIndex(rest)
		if m == nil {
			return all
		}
		at += m[1]
	}
}

// sought is what is read and written, by patterns.
func sought(l []api.Token) (read, written []string) {
	is := func(i int, word string) bool { return i >= 0 && l[i].Kind == api.Word && l[i].Text == word }
	for i := range l {
		if l[i].Kind != api.Word {
			continue
		}
		all := listed(l, i+1)
		first := all[:min(len(all), 1)]
		switch {
		case is(i, "from") && is(i-1, "delete"), is(i, "into"), is(i, "update") && !is(i-1, "for"):
			written = append(written, first...)
		case is(i, "truncate"):
			written = append(written, all...)
		case is(i, "from"), is(i, "join"), is(i, "using"), i == 0 && is(i, "table"):
			read = append(read, all...)
		}
	}
	return sorted(read...), sorted(written...)
}

// P7.1 to P7.4, P7.6: random statements
func TestRandom(t *testing.T) {
	r := rand.New(rand.NewSource(7))
	counts := map[int]int{}
	for range 50000 {
		s := random(r)
		l := scan(t, s)
		read, written := sought(l)
		if got := Reads(l); !slices.Equal(got, read) {
			t.Fatalf("Reads of %q = %q, want %q", s, got, read)
		}
		if got := Writes(l); !slices.Equal(got, written) {
			t.Fatalf("Writes of %q = %q, want %q", s, got, written)
		}
		got := Of(l)
		if got.Class != class.Of(l) || got.Norm != norm.Tokens(l) {
			t.Fatalf("Of %q = %v", s, got)
		}
		counts[got.Class]++
		has := got.Class == api.Read || got.Class == api.Write || got.Class == api.Volatile
		if !has {
			read = nil
		}
		if got.Class != api.Write {
			written = nil
		}
		if !slices.Equal(got.Reads, read) || !slices.Equal(got.Writes, written) {
			t.Fatalf("Of %q = %v, want %q, %q", s, got, read, written)
		}
		all := lexer.Split(l)
		p, e := Parse(s)
		switch {
		case len(all) > 1 && (e != api.ErrForm || p.Class != 0 || p.Norm != "" || len(p.Reads)+len(p.Writes) > 0):
			t.Fatalf("Parse(%q) = %v, %d", s, p, e)
		case len(all) == 1 && (e != api.OK || p.Class != class.Of(all[0]) || p.Norm != norm.Tokens(all[0])):
			t.Fatalf("Parse(%q) = %v, %d", s, p, e)
		case len(all) == 0 && (e != api.OK || p.Class != api.Empty):
			t.Fatalf("Parse(%q) = %v, %d", s, p, e)
		}
	}
	for _, class := range []int{api.Empty, api.Read, api.Write, api.Volatile, api.Unknown} {
		if counts[class] < 100 {
			t.Errorf("only %d of class %d", counts[class], class)
		}
	}
}

// P7.6: a Read writes nothing
func TestReadsWriteNothing(t *testing.T) {
	r := rand.New(rand.NewSource(76))
	seen := 0
	for range 100000 {
		s := "select " + random(r)
		p, e := Parse(s)
		if e != api.OK || p.Class != api.Read {
			continue
		}
		if len(p.Writes) > 0 {
			t.Fatalf("%q writes %q", s, p.Writes)
		}
		if len(p.Reads) > 0 {
			seen++
		}
	}
	if seen < 1000 {
		t.Errorf("only %d read something", seen)
	}
}

// P7.6: what is quoted is told from what is not by its great letters alone
func TestQuotedAndNot(t *testing.T) {
	r := rand.New(rand.NewSource(67))
	plain := []string{"a", "Bb", "C_1", "x$", "T", "a.T", "S.a", "S.T", "insert", "By"}
	for range 20000 {
		var bare, small, great, said []string
		for range 1 + r.Intn(5) {
			name := plain[r.Intn(len(plain))]
			parts := strings.Split(name, ".")
			bare = append(bare, name)
			small = append(small, `"`+strings.Join(strings.Split(strings.ToLower(name), "."), `"."`)+`"`)
			great = append(great, `"`+strings.Join(parts, `"."`)+`"`)
			said = append(said, name)
		}
		of := func(l []string) string { return "truncate " + strings.Join(l, ", ") }
		lower := sorted(strings.Fields(strings.ToLower(strings.Join(said, " ")))...)
		writes(t, strings.Join(lower, " "), of(bare), of(small))
		writes(t, strings.Join(sorted(said...), " "), of(great))
	}
	reads(t, "T t", `select 1 from t, "T", T, "t"`)
	reads(t, "t", `select 1 from t, "t", T`)
	reads(t, "S.t s.T s.t", `select 1 from s.t, "S".t, s."T", S.T, "s"."t"`)
}
