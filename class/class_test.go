package class

import (
	"math"
	"math/rand"
	"slices"
	"strings"
	"testing"

	"pontoon/api"
	"pontoon/lexer"
)

// letters are the kinds of tokens, each by a letter; the last two are none of the five.
var letters = map[string]int{"w": api.Word, "q": api.Quoted, "t": api.Str, "n": api.Num, "s": api.Sign, "-": 0, "+": 6}

// tokens makes tokens without places, from pairs of a kind's letter and a text.
func tokens(pairs ...string) []api.Token {
	var l []api.Token
	for i := 0; i < len(pairs); i += 2 {
		l = append(l, api.Token{Kind: letters[pairs[i]], Text: pairs[i+1]})
	}
	return l
}

// noWords are kinds of tokens that are no Words: those of the other kinds, and of none.
var noWords = []int{api.Quoted, api.Str, api.Num, api.Sign, 0, 6, -1, -api.Word, api.Word + 256, 1 << 32, 1<<32 + api.Word, math.MaxInt, math.MinInt}

// scan is the tokens of a text that is right.
func scan(t *testing.T, s string) []api.Token {
	t.Helper()
	l, e, _ := lexer.Scan(s)
	if e != api.OK {
		t.Fatalf("Scan(%q): error %d", s, e)
	}
	return l
}

// are asks whether texts are all of such a class.
func are(t *testing.T, want int, texts ...string) {
	t.Helper()
	for _, s := range texts {
		if got := Of(scan(t, s)); got != want {
			t.Errorf("Of %q = %d (%s), want %d (%s)", s, got, Name(got), want, Name(want))
		}
	}
}

// is asks whether tokens are of such a class.
func is(t *testing.T, want int, pairs ...string) {
	t.Helper()
	if got := Of(tokens(pairs...)); got != want {
		t.Errorf("Of %q = %d (%s), want %d (%s)", pairs, got, Name(got), want, Name(want))
	}
}

// answers asks whether a call answered what it should.
func answers(t *testing.T, got, want bool, what ...any) {
	t.Helper()
	if got != want {
		t.Errorf("%v: %v, want %v", what, got, want)
	}
}

// P6.1: Has
func TestHas(t *testing.T) {
	abc := []string{"a", "b", "c"}
	for s, want := range map[string]bool{
		"":               false,
		"a":              true,
		"b":              true,
		"c":              true,
		"d":              false,
		"A":              true,
		"a x y":          true,
		"x a y":          true,
		"x y a":          true,
		"x, y (c)":       true,
		"x y z":          false,
		"ab":             false,
		"aa":             false,
		"a1":             false,
		"\"a\"":          false,
		"'a'":            false,
		"$$a$$":          false,
		"$a$a$a$":        false,
		"x 'a' \"b\" 1":  false,
		"'a' a":          true,
		"x -- a":         false,
		"x /* a */":      false,
		"x /* a */ b":    true,
		"x;c":            true,
		"x.a":            true,
		"\"b\".b":        true,
		"1a":             true,
		"x 'it''s a' $1": false,
	} {
		answers(t, Has(scan(t, s), abc), want, "Has of", s)
	}
}

// P6.1: each word of a list counts, and stands for itself alone
func TestHasOfEach(t *testing.T) {
	l := tokens("w", "a", "w", "b")
	answers(t, Has(l, []string{"a"}), true, "a")
	answers(t, Has(l, []string{"b"}), true, "b")
	answers(t, Has(l, []string{"c", "b"}), true, "c b")
	answers(t, Has(l, []string{"a", "c"}), true, "a c")
	answers(t, Has(l, []string{"c", "d", "c"}), false, "c d c")
	answers(t, Has(l, []string{"A"}), false, "A")
	answers(t, Has(l, []string{"ab", "a b", " a", "b ", ""}), false, "ab")
}

// P6.1: lists that are empty
func TestHasNothing(t *testing.T) {
	for _, words := range [][]string{nil, {}} {
		answers(t, Has(tokens("w", "a", "w", ""), words), false, "no words")
		answers(t, Has(nil, words), false, "nothing")
	}
	for _, l := range [][]api.Token{nil, {}} {
		answers(t, Has(l, []string{"a", ""}), false, "no tokens")
	}
}

// P6.1: words are Words, also those that no text has
func TestHasWrong(t *testing.T) {
	for _, kind := range noWords {
		answers(t, Has([]api.Token{{Kind: kind, Text: "a"}}, []string{"a"}), false, "kind", kind)
		answers(t, Has([]api.Token{{Kind: kind, Text: "a"}, {Kind: api.Word, Text: "a"}}, []string{"a"}), true, "kind", kind, "and a Word")
	}
	for _, s := range []string{"", "A", "A b", "'a'", "(", "1", "\x00", "\xff", "select\n"} {
		answers(t, Has(tokens("w", s), []string{s}), true, "Word", s)
		answers(t, Has(tokens("w", s), []string{"a"}), false, "Word, not a", s)
	}
	answers(t, Has([]api.Token{{Kind: api.Word, Text: "a", At: -7}}, []string{"a"}), true, "a place below 0")
}

// P6.1: Calls
func TestCalls(t *testing.T) {
	fg := []string{"f", "g"}
	for s, want := range map[string]bool{
		"":                  false,
		"f":                 false,
		"f(":                true,
		"f()":               true,
		"F ()":              true,
		"g(1)":              true,
		"f/**/--\n(":        true,
		"h()":               false,
		"f g":               false,
		"f g(":              true,
		"f, (":              false,
		"f.(":               false,
		"f)":                false,
		"f[":                false,
		"(f":                false,
		"(f)":               false,
		"(f)(":              false,
		"f x(":              false,
		"x(f":               false,
		"x f(f":             true,
		"select a, f(g)":    true,
		"select f, g, h(f)": false,
		"s.f(1)":            true,
		"f.s(1)":            false,
		"ff(":               false,
		"\"f\"(":            false,
		"'f'(":              false,
		"$$f$$(":            false,
		"'f('":              false,
		"\"f(\"":            false,
		"f '('":             false,
		"f \"(\"":           false,
		"f 1 (":             false,
		"f (":               true,
		"f () g ()":         true,
		"f; (":              false,
		"h(); f()":          true,
	} {
		answers(t, Calls(scan(t, s), fg), want, "Calls of", s)
	}
}

// P6.1: lists that are empty, and of one
func TestCallsNothing(t *testing.T) {
	for _, names := range [][]string{nil, {}} {
		answers(t, Calls(tokens("w", "f", "s", "(", "w", "", "s", "("), names), false, "no names")
		answers(t, Calls(nil, names), false, "nothing")
	}
	for _, l := range [][]api.Token{nil, {}, tokens("w", "f"), tokens("s", "(")} {
		answers(t, Calls(l, []string{"f", ""}), false, "tokens", l)
	}
	answers(t, Calls(tokens("w", "f", "s", "("), []string{"f"}), true, "f")
	answers(t, Calls(tokens("w", "f", "s", "("), []string{"g", "f"}), true, "g f")
	answers(t, Calls(tokens("w", "f", "s", "("), []string{"F", "f("}), false, "F")
}

// P6.1: names are not those that Of knows
func TestCallsThoseNamed(t *testing.T) {
	answers(t, Calls(scan(t, "select now(), pg_x()"), []string{"f"}), false, "now, pg_x")
	answers(t, Calls(scan(t, "select pg_x()"), []string{"pg_"}), false, "pg_x is not pg_")
	answers(t, Calls(scan(t, "select pg_x()"), []string{"pg_x"}), true, "pg_x")
}

// P6.1: wrong tokens
func TestCallsWrong(t *testing.T) {
	for _, kind := range noWords {
		l := []api.Token{{Kind: kind, Text: "f"}, {Kind: api.Sign, Text: "("}}
		answers(t, Calls(l, []string{"f"}), false, "kind", kind)
	}
	for _, kind := range append(slices.Clone(noWords), api.Word) {
		l := []api.Token{{Kind: api.Word, Text: "f"}, {Kind: kind, Text: "("}}
		answers(t, Calls(l, []string{"f"}), kind == api.Sign, "kind of (", kind)
	}
	for _, s := range []string{"", "((", "()", " (", "( ", "$1", "[", "\x00", "f"} {
		answers(t, Calls(tokens("w", "f", "s", s), []string{"f"}), false, "Sign", s)
	}
	for _, s := range []string{"", "F", "a b", "(", "\xff"} {
		answers(t, Calls(tokens("w", s, "s", "("), []string{s}), true, "Word", s)
		answers(t, Calls(tokens("w", s, "s", "("), []string{"f"}), false, "Word, not f", s)
	}
}

// P6.1: Locks
func TestLocks(t *testing.T) {
	for s, want := range map[string]bool{
		"":                       false,
		"for":                    false,
		"update":                 false,
		"for update":             true,
		"for share":              true,
		"for no":                 true,
		"for key":                true,
		"FOR UPDATE":             true,
		"for/**/share":           true,
		"for x":                  false,
		"for updates":            false,
		"for insert":             false,
		"for x update":           false,
		"for x share":            false,
		"for nothing":            false,
		"for for":                false,
		"for for update":         true,
		"for x for key":          true,
		"update for":             false,
		"share for":              false,
		"update for x":           false,
		"no key share":           false,
		"forx update":            false,
		"for, update":            false,
		"for (update":            false,
		"for; update":            false,
		"for 'update'":           false,
		"for \"update\"":         false,
		"for $$share$$":          false,
		"\"for\" update":         false,
		"'for' update":           false,
		"'for update'":           false,
		"\"for share\"":          false,
		"for -- update":          false,
		"select a for":           false,
		"select a for update":    true,
		"select a for no key":    true,
		"select a for 1 update":  false,
		"for update of t nowait": true,
	} {
		answers(t, Locks(scan(t, s)), want, "Locks of", s)
	}
	answers(t, Locks(nil), false, "nil")
	answers(t, Locks([]api.Token{}), false, "empty")
}

// P6.1: wrong tokens
func TestLocksWrong(t *testing.T) {
	for _, kind := range noWords {
		one, other := api.Token{Kind: kind, Text: "for"}, api.Token{Kind: kind, Text: "update"}
		word, next := tokens("w", "for")[0], tokens("w", "update")[0]
		answers(t, Locks([]api.Token{one, next}), false, "kind of for", kind)
		answers(t, Locks([]api.Token{word, other}), false, "kind of update", kind)
		answers(t, Locks([]api.Token{word, other, next}), false, "kind between", kind)
		answers(t, Locks([]api.Token{other, word, next}), true, "kind ahead", kind)
	}
	answers(t, Locks(tokens("w", "FOR", "w", "update")), false, "FOR")
	answers(t, Locks(tokens("w", "for", "w", "UPDATE")), false, "UPDATE")
	answers(t, Locks(tokens("w", "for update")), false, "one Word")
	answers(t, Locks(tokens("w", "", "w", "")), false, "empty Words")
}

// P6.2: no tokens
func TestOfNothing(t *testing.T) {
	are(t, api.Empty, "", " ", "\n\t\r\f", "-- select 1", "/* select /* 1 */ */", " /**/ --")
	for _, l := range [][]api.Token{nil, {}, make([]api.Token, 0, 5)} {
		if got := Of(l); got != api.Empty {
			t.Errorf("Of %v = %d", l, got)
		}
	}
}

// P6.2: the examples of the chapter
func TestOfExamples(t *testing.T) {
	are(t, api.Read, "select * from t")
	are(t, api.Volatile, "select now()")
	are(t, api.Write, "with x as (delete from t) select 1")
}

// asking are the first words of what may be a Read.
var asking = []string{"select", "values", "table", "with"}

// P6.2: what reads, and does nothing else
func TestOfReads(t *testing.T) {
	for _, first := range asking {
		for _, rest := range []string{
			"", ";", "1", "a from t where b = 'c' order by d", "(1), (2)", "x as (select 1) select * from x", "t",
			"truncate", "inserted", "updates", "a.b", "set", "begin", "commit", "to", "share", "key", "no", "for", "for x", "for x share",
			"select values table with",
		} {
			are(t, api.Read, first+" "+rest, strings.ToUpper(first)+"\n"+rest, "/* insert */"+first+" "+rest+" -- into")
		}
		are(t, api.Read, first, first+"'a'", first+"(1)", first+"*")
	}
}

// P6.2: a word that writes makes it a Write, wherever it stands
func TestOfWritesWithin(t *testing.T) {
	for _, first := range asking {
		for _, word := range []string{"insert", "update", "delete", "merge", "into", "INTO", "Delete"} {
			are(t, api.Write,
				first+" "+word, first+" a "+word, first+" "+word+" a", first+" ("+word+" t) b", first+" 1; "+word+" t",
				first+" now() "+word, first+" a for share "+word, first+" "+word+" for update", first+" "+word+" pg_x()")
		}
		for _, word := range []string{"insert", "delete", "merge", "into"} {
			are(t, api.Write, first+" for "+word)
		}
	}
}

// P6.2: what quotes hold is no word that writes
func TestOfWritesInQuotes(t *testing.T) {
	for _, first := range asking {
		for _, word := range []string{"insert", "update", "delete", "merge", "into"} {
			are(t, api.Read,
				first+" '"+word+"'", first+" \""+word+"\"", first+" $$"+word+"$$", first+" $a$ "+word+" $a$",
				first+" 1 -- "+word, first+" /* "+word+" */ 1", first+" "+word+"s", first+" x"+word, first+" "+word+"_")
		}
	}
}

// P6.2: update right behind for locks; farther behind it writes
func TestOfUpdate(t *testing.T) {
	for _, first := range asking {
		are(t, api.Volatile, first+" a for update", first+" for update", first+" a FOR\nUPDATE nowait", first+" a for/**/update")
		are(t, api.Write,
			first+" a update", first+" a for no key update", first+" a for x update", first+" a for, update", first+" a for (update",
			first+" a for 1 update", first+" a for 'x' update", first+" a for \"x\" update",
			first+" a for update update", first+" a for update; update t", first+" a for update x update",
			first+" update for", first+" update for update", first+" \"for\" update", first+" 'for' update", first+" forx update")
		are(t, api.Read, first+" a for \"update\"", first+" a for 'update'", first+" \"for\" \"update\"", first+" 'for update'")
	}
}

// P6.2: what locks is Volatile
func TestOfLocks(t *testing.T) {
	for _, first := range asking {
		for _, word := range []string{"update", "share", "no", "key"} {
			are(t, api.Volatile, first+" a for "+word, first+" for "+word, first+" (a for "+word+") b", first+" f() for "+word+" of t")
			are(t, api.Read, first+" a for \""+word+"\"", first+" a \"for "+word+"\"", first+" a for '"+word+"'")
		}
		for _, word := range []string{"share", "no", "key"} {
			are(t, api.Read, first+" "+word, first+" "+word+" for", first+" \"for\" "+word, first+" for x "+word, first+" for, "+word)
		}
	}
}

// changing are functions that change, or are never the same.
var changing = []string{
	"now", "random", "nextval", "currval", "setval", "lastval", "clock_timestamp", "txid_current",
	"pg_", "pg_x", "pg_sleep", "pg_1", "pg_$", "pg_now",
}

// P6.2: what calls a function that changes, or is never the same, is Volatile
func TestOfCalls(t *testing.T) {
	for _, first := range asking {
		for _, f := range changing {
			are(t, api.Volatile,
				first+" "+f+"()", first+" "+f+" ('a')", first+" a, f("+f+"(1))", first+" "+strings.ToUpper(f)+"()",
				first+" s."+f+"()", first+" "+f+"/**/ (", first+" "+f+" "+f+"(", first+" '"+f+"', "+f+"(")
			are(t, api.Read,
				first+" "+f, first+" a, "+f+", b", first+" "+f+" a()", first+" ("+f+")", first+" "+f+")(", first+" "+f+".f()",
				first+" \""+f+"\"()", first+" '"+f+"'()", first+" '"+f+"()'", first+" "+f+" '('", first+" x"+f+"()", first+" "+f+" -- (")
		}
		are(t, api.Read,
			first+" f()", first+" count(*), max(a)", first+" nows()", first+" no()", first+" pg()", first+" pgx()", first+" apg_x()",
			first+" p_g()", first+" clock()", first+" clock_timestamps()", first+" txid()", first+" randoms()", first+" now1()", first+" _now()")
	}
}

// P6.2: statements that write
func TestOfWrites(t *testing.T) {
	for _, first := range []string{"insert", "update", "delete", "truncate", "merge"} {
		are(t, api.Write,
			first, strings.ToUpper(first), first+";", first+" t", first+" into t values (now())", first+" select 1", first+" for update",
			first+" to", first+" transaction", first+"(", first+" 'x'", first+" \"x\"", "-- x\n"+first)
		are(t, api.Unknown, "\""+first+"\"", "'"+first+"'", first+"s", "x "+first, "("+first+")", "; "+first)
	}
}

// P6.2: where transactions begin
func TestOfBegins(t *testing.T) {
	are(t, api.Begin,
		"begin", "BEGIN", "begin;", "begin work", "begin transaction", "begin to", "begin insert", "begin; select now()", "begin 'x'",
		"start transaction", "START TRANSACTION", "start transaction;", "start transaction read only", "start/**/transaction to",
		"start transaction; delete from t")
	are(t, api.Unknown,
		"start", "start;", "start work", "start x transaction", "start, transaction", "start; transaction", "start \"transaction\"",
		"start 'transaction'", "start -- transaction", "start transactions", "start begin", "start start transaction", "transaction",
		"\"start\" transaction", "'start' transaction", "\"begin\"", "'begin'", "begins", "starts transaction", "x start transaction")
}

// P6.2: where they end
func TestOfEnds(t *testing.T) {
	for _, first := range []string{"commit", "end"} {
		are(t, api.Commit, first, strings.ToUpper(first), first+";", first+" work", first+" to", first+" and chain", first+" insert")
		are(t, api.Unknown, "\""+first+"\"", "'"+first+"'", first+"s", "x "+first)
	}
	for _, first := range []string{"rollback", "abort"} {
		are(t, api.Rollback,
			first, strings.ToUpper(first), first+";", first+" work", first+" \"to\"", first+" 'to'", first+" $$to$$", first+" tos",
			first+" -- to", first+" insert", first+" /* to */ and chain", first+" savepoint a")
		are(t, api.Unknown,
			first+" to", first+" TO a", first+" to savepoint a", first+" work to a", first+" x, to", first+" 'to' to", first+"; to",
			"\""+first+"\"", "'"+first+"'", first+"s", "x "+first)
	}
}

// P6.2: what changes its session's state
func TestOfStates(t *testing.T) {
	for _, first := range []string{"set", "reset", "discard", "listen", "unlisten", "prepare", "deallocate", "declare", "load"} {
		are(t, api.State, first, strings.ToUpper(first), first+";", first+" a to b", first+" all", first+" insert", first+" for update", first+" now()", first+" 'x'")
		are(t, api.Unknown, "\""+first+"\"", "'"+first+"'", first+"s", "x "+first)
	}
}

// P6.2: all others
func TestOfUnknown(t *testing.T) {
	are(t, api.Unknown,
		"create table t (a int)", "drop table t", "alter table t", "copy t to stdout", "explain select 1", "show a", "savepoint a",
		"release a", "lock t", "call f()", "do $$x$$", "fetch 1", "close a", "notify a", "execute a", "vacuum", "analyze", "into", "for update",
		"empty", "read", "write", "state", "volatile", "unknown", "now()", "pg_x()", "transaction", "to", "x", "_", "\xff",
		";", "; select 1", "(select 1)", "( insert", "1", "1 select", "'select' 1", "\"select\" 1", "$$select$$", "$1", "* select", "selects 1", "select1", "select$")
	for _, first := range asking {
		are(t, api.Unknown, "\""+first+"\" insert", "'"+first+"' now()", "x "+first, "("+first+")", first+"_ a")
	}
}

// P6.2: a first token that is no Word, whatever its kind
func TestOfWrongKinds(t *testing.T) {
	for _, kind := range noWords {
		for first := range firsts() {
			l := []api.Token{{Kind: kind, Text: first}, {Kind: api.Word, Text: "transaction"}, {Kind: api.Word, Text: "into"}}
			for n := 1; n <= len(l); n++ {
				if got := Of(l[:n]); got != api.Unknown {
					t.Errorf("Of %v = %d", l[:n], got)
				}
			}
		}
	}
}

// P6.2: further tokens of wrong kinds say nothing
func TestOfWrongKindsWithin(t *testing.T) {
	sel, open := api.Token{Kind: api.Word, Text: "select"}, api.Token{Kind: api.Sign, Text: "("}
	for _, kind := range noWords {
		for _, s := range []string{"insert", "update", "delete", "merge", "into", "now", "pg_x", "for"} {
			k := api.Token{Kind: kind, Text: s}
			if got := Of([]api.Token{sel, k, open}); got != api.Read {
				t.Errorf("%v: %d", k, got)
			}
		}
		for first, want := range map[string]int{"rollback": api.Rollback, "abort": api.Rollback, "start": api.Unknown} {
			l := []api.Token{{Kind: api.Word, Text: first}, {Kind: kind, Text: "to"}, {Kind: kind, Text: "transaction"}}
			if got := Of(l); got != want {
				t.Errorf("%v: %d", l, got)
			}
			if got := Of([]api.Token{l[0], l[2]}); got != want {
				t.Errorf("%v: %d", l[0], got)
			}
		}
		// A for of such a kind is none, so that an update behind it writes.
		if got := Of([]api.Token{sel, {Kind: kind, Text: "for"}, {Kind: api.Word, Text: "update"}}); got != api.Write {
			t.Errorf("for of kind %d: %d", kind, got)
		}
		if got := Of([]api.Token{sel, {Kind: api.Word, Text: "now"}, {Kind: kind, Text: "("}}); got == api.Volatile != (kind == api.Sign) {
			t.Errorf("( of kind %d: %d", kind, got)
		}
	}
}

// P6.2: Words that no text has
func TestOfWrongWords(t *testing.T) {
	for _, s := range []string{"", "SELECT", "Select", " select", "select ", "select 1", "INSERT", "begin;", "(", "1", "\x00", "'", "start transaction", "rollback to"} {
		is(t, api.Unknown, "w", s)
		is(t, api.Unknown, "w", s, "w", "transaction", "w", "insert")
	}
	is(t, api.Read, "w", "select", "w", "INSERT", "w", "insert into", "w", "", "w", "(", "w", "UPDATE")
	is(t, api.Read, "w", "select", "w", "NOW", "s", "(", "w", "PG_X", "s", "(", "w", "now(", "s", "((", "w", "pg", "s", "(")
	is(t, api.Read, "w", "select", "w", "for update", "w", "FOR", "w", "share")
	is(t, api.Volatile, "w", "select", "w", "pg_ (X)", "s", "(")
	is(t, api.Write, "w", "select", "w", "FOR", "w", "update")
	is(t, api.Unknown, "w", "start", "w", "TRANSACTION")
	is(t, api.Unknown, "w", "start", "w", "", "w", "transaction")
	is(t, api.Rollback, "w", "rollback", "w", "TO", "w", "to a")
	is(t, api.Write, "w", "select", "-", "x", "+", "y", "w", "into")
	is(t, api.Volatile, "w", "select", "-", "x", "w", "now", "s", "(", "+", ")")
}

// P6.3
func TestName(t *testing.T) {
	for class, want := range map[int]string{
		api.Empty:    "empty",
		api.Read:     "read",
		api.Write:    "write",
		api.Begin:    "begin",
		api.Commit:   "commit",
		api.Rollback: "rollback",
		api.State:    "state",
		api.Volatile: "volatile",
		api.Unknown:  "unknown",
	} {
		if got := Name(class); got != want {
			t.Errorf("Name(%d) = %q, want %q", class, got, want)
		}
	}
}

// P6.3: numbers that are no class
func TestNameOfNone(t *testing.T) {
	wrong := []int{-1, -2, -8, 9, 10, 255, 256, 1 << 31, 1 << 32, 1<<32 + 1, 1 << 62, -1 << 32, math.MaxInt, math.MinInt, math.MinInt + 1}
	for _, class := range wrong {
		if got := Name(class); got != "" {
			t.Errorf("Name(%d) = %q", class, got)
		}
	}
}

// P6.1, P6.2: what is handed in stays as it was, the room behind it too
func TestHandedInStays(t *testing.T) {
	room := scan(t, "select a, now() from t for update x rollback to start transaction insert into")
	before := slices.Clone(room)
	words := []string{"z", "into", "now", "a"}
	for n := range len(room) + 1 {
		l := room[:n]
		Of(l)
		Locks(l)
		Has(l, words[:1])
		Calls(l, words[:3])
		if !slices.Equal(room, before) || !slices.Equal(words, []string{"z", "into", "now", "a"}) {
			t.Fatalf("with %d tokens: %v, %q", n, room, words)
		}
	}
}

// P6.1, P6.2: what stands behind a list is none of it
func TestBehindTheList(t *testing.T) {
	room := scan(t, "select now ( for update into")
	for n, want := range []int{api.Empty, api.Read, api.Read, api.Volatile, api.Volatile, api.Volatile, api.Write} {
		if got := Of(room[:n]); got != want {
			t.Errorf("%d tokens: %d, want %d", n, got, want)
		}
		answers(t, Calls(room[:n], []string{"now"}), n >= 3, "Calls", n)
		answers(t, Locks(room[:n]), n >= 5, "Locks", n)
		answers(t, Has(room[:n], []string{"into"}), n >= 6, "Has", n)
	}
	start := scan(t, "start transaction")
	if got := Of(start[:1]); got != api.Unknown {
		t.Errorf("start: %d", got)
	}
}

// pieces are what random statements are made of.
var pieces = []string{
	"select", "values", "table", "with", "select", "with", "insert", "update", "update", "delete", "merge", "into", "truncate",
	"for", "for", "share", "no", "key", "now", "random", "pg_x", "f", "(", "(", ")", ",", ";", "1", "a", "to", "start",
	"transaction", "rollback", "abort", "begin", "set", "end", "'update'", "\"into\"", "\"for\"", "'now'", "\"now\"", "$$for$$", "\"(\"",
}

// random is a text of some pieces, that begins with what may read as often as not.
func random(r *rand.Rand) string {
	var l []string
	if r.Intn(2) == 0 {
		l = append(l, asking[r.Intn(len(asking))])
	}
	for range r.Intn(10) {
		l = append(l, pieces[r.Intn(len(pieces))])
	}
	return strings.Join(l, " ")
}

// asked is all that is answered of tokens.
func asked(l []api.Token) [4]int {
	number := map[bool]int{true: 1}
	words := []string{"insert", "now", "for", "(", "to"}
	return [4]int{Of(l), number[Has(l, words)], number[Calls(l, words)], number[Locks(l)]}
}

// P6.4: what quotes hold makes no difference
func TestQuotesHoldNothing(t *testing.T) {
	r := rand.New(rand.NewSource(6))
	held := []string{"", "x", "insert", "update", "into", "for", "now", "pg_x", "(", ";", "to", "transaction", "select", "it's", "\"", "a b"}
	seen := 0
	for range 100000 {
		s := random(r)
		l := scan(t, s)
		other := slices.Clone(l)
		for i := range other {
			if other[i].Kind == api.Quoted || other[i].Kind == api.Str {
				other[i].Text = held[r.Intn(len(held))]
				seen++
			}
		}
		if got, want := asked(other), asked(l); got != want {
			t.Fatalf("%q: %v, with others in quotes %q: %v", s, want, lexer.Show(other), got)
		}
		if got, want := asked(scan(t, lexer.Show(other))), asked(l); got != want {
			t.Fatalf("%q: %v, with others in quotes %q: %v", s, want, lexer.Show(other), got)
		}
	}
	if seen < 10000 {
		t.Errorf("only %d quotes", seen)
	}
}

// P6.4: a Read has no word that writes, nor one that locks; and what else asks has one
func TestReadsDoNotWrite(t *testing.T) {
	r := rand.New(rand.NewSource(66))
	counts := map[int]int{}
	for range 100000 {
		s := random(r)
		l := scan(t, s)
		class := Of(l)
		counts[class]++
		writes := Has(l, []string{"insert", "delete", "merge", "into"})
		updates := Has(l, []string{"update"})
		calls := Calls(l, []string{"now", "random", "pg_x"})
		asks := len(l) > 0 && Has(l[:1], asking)
		switch {
		case class == api.Read && (writes || updates || calls || Locks(l) || !asks):
			t.Fatalf("%q is a Read", s)
		case class == api.Volatile && (writes || !calls && !Locks(l) || !asks):
			t.Fatalf("%q is a Volatile", s)
		case asks && class == api.Write && !writes && !updates:
			t.Fatalf("%q is a Write", s)
		case asks && class != api.Read && class != api.Volatile && class != api.Write:
			t.Fatalf("%q is a %s", s, Name(class))
		case class == api.Empty && len(l) > 0 || Name(class) == "":
			t.Fatalf("%q is %d", s, class)
		}
	}
	for _, class := range []int{api.Empty, api.Read, api.Write, api.Volatile, api.Unknown, api.Rollback, api.Begin} {
		if counts[class] < 100 {
			t.Errorf("only %d of class %s", counts[class], Name(class))
		}
	}
}
