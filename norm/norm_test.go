package norm

import (
	"math/rand"
	"regexp"
	"slices"
	"strconv"
	"strings"
	"testing"
	"unsafe"

	"pontoon/api"
	"pontoon/lexer"
)

// tokens makes tokens without places, from pairs of a kind's letter and a text.
func tokens(pairs ...string) []api.Token {
	kinds := map[string]int{"w": api.Word, "q": api.Quoted, "t": api.Str, "n": api.Num, "s": api.Sign, "-": 0, "+": 6}
	var l []api.Token
	for i := 0; i < len(pairs); i += 2 {
		l = append(l, api.Token{Kind: kinds[pairs[i]], Text: pairs[i+1]})
	}
	return l
}

// scan is the tokens of a text that is right.
func scan(t *testing.T, s string) []api.Token {
	t.Helper()
	l, e, _ := lexer.Scan(s)
	if e != api.OK {
		t.Fatalf("Scan(%q): error %d", s, e)
	}
	return l
}

// has asks whether a text has such a normal form, and its tokens too, and whether that is its own.
func has(t *testing.T, s, want string) {
	t.Helper()
	if got, e := Form(s); got != want || e != api.OK {
		t.Errorf("Form(%q) = %q, %d, want %q", s, got, e, want)
	}
	if got := Tokens(scan(t, s)); got != want {
		t.Errorf("Tokens of %q = %q, want %q", s, got, want)
	}
	if got, e := Form(want); got != want || e != api.OK {
		t.Errorf("Form(%q) = %q, %d, want the same", want, got, e)
	}
}

// shows asks whether tokens have such a normal form.
func shows(t *testing.T, want string, pairs ...string) {
	t.Helper()
	if got := Tokens(tokens(pairs...)); got != want {
		t.Errorf("Tokens(%q) = %q, want %q", pairs, got, want)
	}
}

// P5.1: the example of the chapter
func TestFormExample(t *testing.T) {
	has(t, "SELECT  007.50 ;", "select 7.5")
}

// P5.1: statements
func TestFormStatements(t *testing.T) {
	has(t, "select * from t", "select * from t")
	has(t, "SELECT a.B, \"C\" FROM T WHERE x>=01", `select a . b , "C" from t where x > = 1`)
	has(t, "\t select\r\n1 -- one\n/* two /* three */ */ , 2\f", "select 1 , 2")
	has(t, "INSERT INTO t VALUES('It''s', $$B'c$$, \"d\"\"E\", $1)", `insert into t values ( 'It''s' , 'B''c' , "d""E" , $1 )`)
	has(t, "f(1)+-2", "f ( 1 ) + - 2")
	has(t, "ÄB \xff", "Äb \xff")
	has(t, "x='' \"\"", `x = '' ""`)
}

// P5.1: no tokens at all
func TestFormNothing(t *testing.T) {
	for _, s := range []string{"", " ", "\n\t", "--", "-- a", "/**/", " /* a */ -- ;\n", ";", ";;;", " ; ; ", ";--;\n;/*;*/"} {
		has(t, s, "")
	}
	for _, l := range [][]api.Token{nil, {}, tokens("s", ";"), tokens("s", ";", "s", ";")} {
		if got := Tokens(l); got != "" {
			t.Errorf("Tokens(%v) = %q", l, got)
		}
	}
}

// P5.1: Signs ; at the end
func TestFormEnds(t *testing.T) {
	has(t, "a;", "a")
	has(t, "a;;", "a")
	has(t, "a ; ;\n; -- b", "a")
	has(t, "a;b", "a ; b")
	has(t, "a;;b;;", "a ; ; b")
	has(t, ";a", "; a")
	has(t, ";;a;", "; ; a")
	has(t, "a;1.0;", "a ; 1")
	has(t, "a,;", "a ,")
	has(t, "a;';'", "a ; ';'")
	has(t, "a;\";\"", `a ; ";"`)
	has(t, "a;$$;$$;", "a ; ';'")
}

// P5.1: what is no Sign ; stays at the end
func TestTokensEnds(t *testing.T) {
	shows(t, "a ';'", "w", "a", "t", ";")
	shows(t, `a ";"`, "w", "a", "q", ";")
	shows(t, "a ;", "w", "a", "w", ";")
	shows(t, "a ;", "w", "a", "n", ";")
	shows(t, "a ;", "w", "a", "-", ";")
	shows(t, "a ;", "w", "a", "+", ";", "s", ";")
	shows(t, "a ;;", "w", "a", "s", ";;", "s", ";")
	shows(t, "a ,", "w", "a", "s", ",")
	shows(t, "a ; ", "w", "a", "s", ";", "s", "")
	shows(t, "a ; ", "w", "a", "s", ";", "w", "", "s", ";")
}

// P5.1: numbers without noughts at their beginning
func TestFormFront(t *testing.T) {
	for s, want := range map[string]string{
		"0":             "0",
		"00":            "0",
		"000000":        "0",
		"1":             "1",
		"01":            "1",
		"007":           "7",
		"0070":          "70",
		"10":            "10",
		"100":           "100",
		"1000000000000": "1000000000000",
		"0.5":           "0.5",
		"00.5":          "0.5",
		"000.05":        "0.05",
		"01.5":          "1.5",
		"010.5":         "10.5",
		"00..":          "0..",
		"00.1.2":        "0.1.2",
		"07.1.2":        "7.1.2",
		"007..0":        "7..0",
		"0.0.":          "0.0.",
	} {
		has(t, s, want)
	}
}

// P5.1: numbers of just one point without noughts at their end
func TestFormBack(t *testing.T) {
	for s, want := range map[string]string{
		"1.5":           "1.5",
		"1.50":          "1.5",
		"1.5000":        "1.5",
		"1.05":          "1.05",
		"1.050":         "1.05",
		"1.0":           "1",
		"1.":            "1",
		"1.000":         "1",
		"100.0":         "100",
		"100.":          "100",
		"100.00":        "100",
		"0.":            "0",
		"0.0":           "0",
		"00.00":         "0",
		"00.":           "0",
		"0.10":          "0.1",
		"007.50":        "7.5",
		"10.010":        "10.01",
		"1.0.0":         "1.0.0",
		"1..":           "1..",
		"1..0":          "1..0",
		"1.5.00":        "1.5.00",
		"1...0":         "1...0",
		"0...":          "0...",
		"120":           "120",
		"1.00000000001": "1.00000000001",
	} {
		has(t, s, want)
	}
}

// P5.1: each number stands for itself
func TestFormManyNums(t *testing.T) {
	has(t, "0 00 007 0.0 00.10 1.50 10 100.0 1.0.0;", "0 0 7 0 0.1 1.5 10 100 1.0.0")
	has(t, "01.0,02..,a03,'04.0',\"05.0\",$06,$$07.0$$", `1 , 2.. , a03 , '04.0' , "05.0" , $06 , '07.0'`)
	has(t, "1.0.50 50.0e0", "1.0.50 50 e0")
	has(t, ".50 a.50", ". 50 a . 50")
}

// P5.1: noughts of Nums alone are cut off
func TestTokensOtherKinds(t *testing.T) {
	shows(t, "01.0", "w", "01.0")
	shows(t, `"01.0"`, "q", "01.0")
	shows(t, "'01.0'", "t", "01.0")
	shows(t, "01.0", "s", "01.0")
	shows(t, "01.0", "-", "01.0")
	shows(t, "01.0", "+", "01.0")
	shows(t, "1", "n", "01.0")
	l := []api.Token{{Kind: -1, Text: "00", At: -5}, {Kind: 1 << 40, Text: "'0.0", At: 7}}
	if got := Tokens(l); got != "00 '0.0" {
		t.Errorf("%q", got)
	}
}

// P5.1: Nums that no text has
func TestTokensWrongNums(t *testing.T) {
	for s, want := range map[string]string{
		"":       "",
		".":      "",
		"..":     "..",
		".0":     "",
		".5":     ".5",
		".50":    ".5",
		".0.0":   ".0.0",
		"00a":    "a",
		"0a":     "a",
		"0a.0":   "a",
		"a":      "a",
		"a00":    "a00",
		"a.00":   "a",
		"a.b0":   "a.b",
		"-01.0":  "-01",
		" 0.50":  " 0.5",
		"0.50 ":  "0.50 ",
		"00 ":    " ",
		"'0.0":   "'0",
		"\x000.": "\x000",
		"0\xff":  "\xff",
	} {
		shows(t, want, "n", s)
		shows(t, "a "+want+" b", "w", "a", "n", s, "w", "b")
	}
}

// P5.1: tokens that no text has are shown as they are
func TestTokensWrong(t *testing.T) {
	shows(t, "A B ", "w", "A B", "w", "")
	shows(t, `'" $`, "s", `'"`, "s", "$")
	shows(t, `'a''''b' """"`, "t", "a''b", "q", `"`)
}

// P5.1: Scan's errors
func TestFormErrors(t *testing.T) {
	for s, want := range map[string]api.Errno{
		"{":                             api.ErrChar,
		"a $ b":                         api.ErrChar,
		"\x00":                          api.ErrChar,
		"select 1 \\;":                  api.ErrChar,
		"'":                             api.ErrQuote,
		"a 'b''":                        api.ErrQuote,
		"\"a":                           api.ErrQuote,
		"/*":                            api.ErrQuote,
		"a /* /* */":                    api.ErrQuote,
		"$$a$":                          api.ErrQuote,
		strings.Repeat(" ", 2001):       api.ErrBig,
		strings.Repeat("{", 2001):       api.ErrBig,
		"'" + strings.Repeat("a", 2000): api.ErrBig,
	} {
		if got, e := Form(s); got != "" || e != want {
			t.Errorf("Form(%q) = %q, %d, want error %d", s, got, e, want)
		}
	}
	has(t, strings.Repeat("a", 2000), strings.Repeat("a", 2000))
	has(t, strings.Repeat("0", 2000), "0")
	has(t, strings.Repeat(";", 2000), "")
	// A normal form may have more bytes than its text.
	if got, e := Form(strings.Repeat(",", 2000)); got != strings.Repeat(", ", 1999)+"," || e != api.OK {
		t.Errorf("%d bytes, error %d", len(got), e)
	}
}

// P5.2
func TestBinds(t *testing.T) {
	for s, want := range map[string]int{
		"":                          0,
		"a":                         0,
		"$1":                        1,
		"$2":                        2,
		"$0":                        0,
		"$000":                      0,
		"$1 $3 $2":                  3,
		"$3,$1":                     3,
		"$7$7":                      7,
		"$10":                       10,
		"$9 $10":                    10,
		"$007":                      7,
		"$000000008":                8,
		"$0000000008":               0,
		"$999999999":                999999999,
		"$1000000000":               0,
		"$9999999999":               0,
		"$99999999999999999999 $4":  4,
		"$5 $0000000006":            5,
		"'$1'":                      0,
		"\"$1\"":                    0,
		"$$$1$$":                    0,
		"a$1":                       0,
		"1$2":                       2,
		"$1.5":                      1,
		"$12x":                      12,
		"-- $1":                     0,
		"/* $1 */ $2":               2,
		"select 9 where a = $1; $2": 2,
		"f($1, $3, $1) + '$4'":      3,
	} {
		if got := Binds(scan(t, s)); got != want {
			t.Errorf("Binds of %q = %d, want %d", s, got, want)
		}
	}
}

// strangers are texts that are those of no parameter, if of Signs.
var strangers = []string{
	"", "$", "1", "$$", "$1$", "$$1", "$1a", "$a1", "$1 ", "$ 1", " $1", "$+1", "$-1", "$1.0", "$1_0", "$0x1", "$a", "a$1",
	"$1e1", "$²", "$\u0661", "$1\x00", "$\xff", "S1", "?1", "$1a1",
}

// P5.2, P5.3: tokens that are no parameters
func TestStrangers(t *testing.T) {
	var l []api.Token
	for _, s := range strangers {
		l = append(l, tokens("s", s)...)
	}
	l = append(l, tokens("w", "$1", "q", "$1", "t", "$1", "n", "$1", "-", "$1", "+", "$1")...)
	l = append(l, api.Token{Kind: -5, Text: "$1"}, api.Token{Kind: 1 << 40, Text: "$0"})
	for _, k := range l {
		if got := Binds([]api.Token{k}); got != 0 {
			t.Errorf("Binds of %v = %d", k, got)
		}
		if got, e := Fill([]api.Token{k}, nil, nil); e != api.OK || !slices.Equal(got, []api.Token{k}) {
			t.Errorf("Fill of %v = %v, %d", k, got, e)
		}
	}
	if got, e := Fill(l, []string{"x"}, []bool{false}); e != api.OK || !slices.Equal(got, l) {
		t.Errorf("Fill = %v, %d", got, e)
	}
	if Binds(nil) != 0 || Binds([]api.Token{}) != 0 {
		t.Error("Binds of no tokens")
	}
}

// fills asks whether a text with such arguments becomes such tokens.
func fills(t *testing.T, s string, args []string, null []bool, want ...string) {
	t.Helper()
	l := scan(t, s)
	w := tokens(want...)
	if len(w) != len(l) {
		t.Fatalf("%q has %d tokens, not %d", s, len(l), len(w))
	}
	for i := range w {
		w[i].At = l[i].At
	}
	if got, e := Fill(l, args, null); e != api.OK || !slices.Equal(got, w) {
		t.Errorf("Fill of %q, %q, %v = %v, %d, want %v", s, args, null, got, e, w)
	}
}

// P5.3: the example of the chapter
func TestFillExample(t *testing.T) {
	fills(t, "select $1", []string{"a"}, []bool{false}, "w", "select", "t", "a")
	l, _ := Fill(scan(t, "select $1"), []string{"a"}, []bool{false})
	if got := Tokens(l); got != "select 'a'" {
		t.Errorf("%q", got)
	}
}

// P5.3
func TestFill(t *testing.T) {
	ab, no := []string{"a", "b"}, []bool{false, false}
	fills(t, "", nil, nil)
	fills(t, "", []string{}, nil)
	fills(t, "", nil, []bool{})
	fills(t, "", ab, no)
	fills(t, "x 1.0 'y' \"z\" ;", nil, nil, "w", "x", "n", "1.0", "t", "y", "q", "z", "s", ";")
	fills(t, "x;", ab, no, "w", "x", "s", ";")
	fills(t, "$1", ab, no, "t", "a")
	fills(t, "$2", ab, no, "t", "b")
	fills(t, "$2,$1", ab, no, "t", "b", "s", ",", "t", "a")
	fills(t, "$1 $1 $2 $1", ab, no, "t", "a", "t", "a", "t", "b", "t", "a")
	fills(t, "$02 $000000001", ab, no, "t", "b", "t", "a")
	fills(t, "'$1' \"$2\" $$$3$$ a$4 9", ab, no, "t", "$1", "q", "$2", "t", "$3", "w", "a$4", "n", "9")
	fills(t, "007.50 ;; $1 ;", ab, no, "n", "007.50", "s", ";", "s", ";", "t", "a", "s", ";")
	fills(t, "$1", []string{""}, []bool{false}, "t", "")
	fills(t, "$1", []string{"null"}, []bool{false}, "t", "null")
	fills(t, "$1,$2", []string{"'", "''"}, no, "t", "'", "s", ",", "t", "''")
	fills(t, "$1,$2", []string{`a'b"`, "$1"}, no, "t", `a'b"`, "s", ",", "t", "$1")
	fills(t, "$1,$2", []string{"$2", "x"}, no, "t", "$2", "s", ",", "t", "x")
	fills(t, "$1,$2", []string{"A\x00\xff; --", "01.0"}, no, "t", "A\x00\xff; --", "s", ",", "t", "01.0")
}

// P5.3: null
func TestFillNull(t *testing.T) {
	fills(t, "$1", []string{""}, []bool{true}, "w", "null")
	fills(t, "$1", []string{"a"}, []bool{true}, "w", "null")
	fills(t, "$1 $2 $3 $2", []string{"a", "b", "c"}, []bool{false, true, false}, "t", "a", "w", "null", "t", "c", "w", "null")
	fills(t, "$1 $2", []string{"a", "b"}, []bool{true, false}, "w", "null", "t", "b")
	fills(t, "a", []string{"a"}, []bool{true}, "w", "a")
}

// P5.3: many arguments
func TestFillMany(t *testing.T) {
	var args []string
	for i := range 300 {
		args = append(args, strconv.Itoa(i+1))
	}
	for _, n := range []int{1, 9, 10, 11, 99, 100, 256, 299, 300} {
		fills(t, "$"+strconv.Itoa(n), args, make([]bool, 300), "t", strconv.Itoa(n))
	}
}

// P5.3: places stay, also wrong ones
func TestFillPlaces(t *testing.T) {
	l := []api.Token{{Kind: api.Sign, Text: "$1", At: -7}, {Kind: 9, Text: "x", At: 1 << 40}, {Kind: api.Sign, Text: "$2", At: 3}}
	want := []api.Token{{Kind: api.Str, Text: "a", At: -7}, {Kind: 9, Text: "x", At: 1 << 40}, {Kind: api.Word, Text: "null", At: 3}}
	if got, e := Fill(l, []string{"a", "b"}, []bool{false, true}); e != api.OK || !slices.Equal(got, want) {
		t.Errorf("%v, %d, want %v", got, e, want)
	}
}

// P5.3: errors
func TestFillErrors(t *testing.T) {
	a, no := []string{"a"}, []bool{false}
	for i, c := range []struct {
		s    string
		args []string
		null []bool
		want api.Errno
	}{
		{"$1", a, nil, api.ErrArg},
		{"$1", nil, no, api.ErrArg},
		{"$1", []string{}, no, api.ErrArg},
		{"$1", a, []bool{true, false}, api.ErrArg},
		{"$1", []string{"a", "b"}, no, api.ErrArg},
		{"", a, nil, api.ErrArg},
		{"a", nil, no, api.ErrArg},
		// The lengths are named ahead of the parameters.
		{"$0", a, nil, api.ErrArg},
		{"$2", nil, no, api.ErrArg},
		{"$1234567890", nil, no, api.ErrArg},
		{"$1", nil, nil, api.ErrNone},
		{"$1", []string{}, []bool{}, api.ErrNone},
		{"$0", a, no, api.ErrNone},
		{"$000000000", a, no, api.ErrNone},
		{"$0", nil, nil, api.ErrNone},
		{"$2", a, no, api.ErrNone},
		{"$2", a, []bool{true}, api.ErrNone},
		{"$3", []string{"a", "b"}, []bool{false, false}, api.ErrNone},
		{"$1 $2", a, no, api.ErrNone},
		{"$2 $1", a, no, api.ErrNone},
		{"a, b, $1, 'c', $0;", a, no, api.ErrNone},
		{"$999999999", a, no, api.ErrNone},
		{"$1000000000", a, no, api.ErrNone},
		{"$0000000001", a, no, api.ErrNone},
		{"$18446744073709551617", a, no, api.ErrNone},
		{"$" + strings.Repeat("9", 1999), a, no, api.ErrNone},
	} {
		l := scan(t, c.s)
		before := slices.Clone(l)
		if got, e := Fill(l, c.args, c.null); len(got) != 0 || e != c.want {
			t.Errorf("%d: Fill of %q, %q, %v = %v, %d, want error %d", i, c.s, c.args, c.null, got, e, c.want)
		}
		if !slices.Equal(l, before) {
			t.Errorf("%d: what was handed in became %v", i, l)
		}
	}
}

// P5.1 to P5.3: what is handed in stays as it was, the room behind it too
func TestHandedInStays(t *testing.T) {
	room := scan(t, "select 007.50, $1 $2 00 ; ; b 01")
	before := slices.Clone(room)
	args, null := []string{"x", "y", "z"}, []bool{false, true, false}
	for n := range len(room) + 1 {
		l := room[:n]
		Tokens(l)
		Binds(l)
		Fill(l, args[:2], null[:2])
		Fill(l, args[:1], null[:1])
		if !slices.Equal(room, before) {
			t.Fatalf("with %d tokens: %v, want %v", n, room, before)
		}
	}
	if !slices.Equal(args, []string{"x", "y", "z"}) || !slices.Equal(null, []bool{false, true, false}) {
		t.Errorf("%q, %v", args, null)
	}
}

// P5.3: what is told goes its own way
func TestFillIsNew(t *testing.T) {
	for _, s := range []string{"a b ;", "a $1 $2 $1 b", "$1"} {
		l := scan(t, s)
		before := slices.Clone(l)
		args, null := []string{"x", "y"}, []bool{false, true}
		got, _ := Fill(l, args, null)
		again, _ := Fill(l, args, null)
		want := slices.Clone(again)
		spare := got[:cap(got)]
		for i := range spare {
			spare[i] = api.Token{Kind: 9, Text: "z", At: 9}
		}
		if !slices.Equal(l, before) || !slices.Equal(again, want) {
			t.Errorf("%q: %v, %v", s, l, again)
		}
		l[0].Text, args[0], null[1] = "q", "q", false
		if !slices.Equal(again, want) {
			t.Errorf("%q: what was told became %v", s, again)
		}
	}
}

// P5.1, P5.3: texts that are answered are new memory
func TestTextsAreNew(t *testing.T) {
	l, args := tokens("w", "aa", "n", "11", "s", "$1"), []string{"bb"}
	got, _ := Fill(l, args, []bool{false})
	for i, from := range []string{l[0].Text, l[1].Text, args[0]} {
		if unsafe.StringData(from) == unsafe.StringData(got[i].Text) {
			t.Errorf("Fill: %q is what was handed in", got[i].Text)
		}
	}
	one := tokens("w", "aa")
	if unsafe.StringData(Tokens(one)) == unsafe.StringData(one[0].Text) {
		t.Error("Tokens: what was handed in")
	}
}

// pieces are what random texts are made of.
var pieces = []string{
	"a", "B", "\xff", "0", "00", "000", "1", "70", ".", ".", "..", "$1", "$02", "$0", "'", "'0'", "\"C\"", "$$",
	" ", " ", "\n", "--", "/*", "*/", ";", ";", ",", "(", "{", "select", "$a$", "\x00",
}

// random is a text of some pieces.
func random(r *rand.Rand) string {
	var b strings.Builder
	for range r.Intn(12) {
		b.WriteString(pieces[r.Intn(len(pieces))])
	}
	return b.String()
}

// P5.4: the normal form of a normal form is that again
func TestFormOfForm(t *testing.T) {
	r := rand.New(rand.NewSource(5))
	right := 0
	for range 200000 {
		s := random(r)
		form, e := Form(s)
		l, scanned, _ := lexer.Scan(s)
		if e != scanned || form != Tokens(l) {
			t.Fatalf("%q: %q, %d, but %q, %d", s, form, e, Tokens(l), scanned)
		}
		if e != api.OK {
			continue
		}
		right++
		if again, e := Form(form); e != api.OK || again != form {
			t.Fatalf("%q: %q, and of that %q, %d", s, form, again, e)
		}
	}
	if right < 20000 {
		t.Errorf("only %d texts were right", right)
	}
}

var (
	front = regexp.MustCompile(`^0+([^.])`)
	back  = regexp.MustCompile(`^([^.]*)(\.[^.]*?)0*$`)
)

// plain is a Num's text in its normal form, by patterns.
func plain(s string) string {
	for front.MatchString(s) {
		s = front.ReplaceAllString(s, "$1")
		if s == "0" {
			break
		}
	}
	return strings.TrimSuffix(back.ReplaceAllString(s, "$1$2"), pointOf(s))
}

// pointOf is the point of a text that has just one, and else a text that none ends with.
func pointOf(s string) string {
	if strings.Count(s, ".") == 1 {
		return "."
	}
	return "\n"
}

// P5.1: all Nums of up to 8 letters
func TestEveryNum(t *testing.T) {
	all := []string{"0", "1"}
	for len(all[0]) <= 8 {
		var longer []string
		for _, s := range all {
			want := plain(s)
			if got := Tokens([]api.Token{{Kind: api.Num, Text: s}}); got != want {
				t.Fatalf("%q: %q, want %q", s, got, want)
			}
			if got := Tokens([]api.Token{{Kind: api.Num, Text: want}}); got != want {
				t.Fatalf("%q, the normal form of %q, becomes %q", want, s, got)
			}
			longer = append(longer, s+"0", s+"1", s+".")
		}
		all = longer
	}
}

// P5.3: a text that is filled has no parameter left, and all else as it was
func TestFillLaws(t *testing.T) {
	r := rand.New(rand.NewSource(6))
	filled := 0
	for range 100000 {
		l, e, _ := lexer.Scan(random(r))
		if e != api.OK {
			continue
		}
		args := make([]string, r.Intn(3))
		null := make([]bool, len(args))
		for i := range args {
			args[i], null[i] = random(r), r.Intn(3) == 0
		}
		got, e := Fill(l, args, null)
		wrong := slices.ContainsFunc(l, func(k api.Token) bool {
			return k.Kind == api.Sign && k.Text[0] == '$' && Binds([]api.Token{k}) == 0
		})
		if wrong || Binds(l) > len(args) {
			if e != api.ErrNone || len(got) != 0 {
				t.Fatalf("%v, %q: %v, %d", l, args, got, e)
			}
			continue
		}
		if e != api.OK || Binds(got) != 0 || len(got) != len(l) {
			t.Fatalf("%v, %q: %v, %d", l, args, got, e)
		}
		for i := range l {
			n := Binds(l[i : i+1])
			want := l[i]
			switch {
			case n > 0 && null[n-1]:
				want.Kind, want.Text = api.Word, "null"
			case n > 0:
				want.Kind, want.Text = api.Str, args[n-1]
				filled++
			}
			if got[i] != want {
				t.Fatalf("%v, %q, %v: %v, want %v", l, args, null, got, want)
			}
		}
	}
	if filled < 1000 {
		t.Errorf("only %d parameters were filled", filled)
	}
}
