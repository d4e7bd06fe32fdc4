package lexer

import (
	"math/rand"
	"slices"
	"strings"
	"testing"
	"unsafe"

	"pontoon/api"
)

// tokens makes tokens without places, from pairs of a kind's letter and a text.
func tokens(pairs ...string) []api.Token {
	kinds := map[string]int{"w": api.Word, "q": api.Quoted, "t": api.Str, "n": api.Num, "s": api.Sign, "-": 0, "+": 6}
	var l []api.Token
	for i := 0; i < len(pairs); i += 2 {
		l = append(l, api.Token{Kind: kinds[pairs[i]], Text: pairs[i+1]})
	}
	return l
}

// bare is tokens without their places.
func bare(l []api.Token) []api.Token {
	l = slices.Clone(l)
	for i := range l {
		l[i].At = 0
	}
	return l
}

// scans asks whether a text has such tokens, wherever they stand.
func scans(t *testing.T, s string, want ...string) {
	t.Helper()
	l, e, at := Scan(s)
	if e != api.OK || at != 0 || !slices.Equal(bare(l), tokens(want...)) {
		t.Errorf("Scan(%q) = %v, %d, %d, want %v", s, l, e, at, tokens(want...))
	}
}

// fails asks whether a text is refused.
func fails(t *testing.T, s string, want api.Errno, place int) {
	t.Helper()
	l, e, at := Scan(s)
	if len(l) != 0 || e != want || at != place {
		t.Errorf("Scan(%q) = %v, %d, %d, want error %d at %d", s, l, e, at, want, place)
	}
}

// P4.1: the example of the chapter
func TestScanExample(t *testing.T) {
	scans(t, "SELECT a$1 FROM \"T\" -- x", "w", "select", "w", "a$1", "w", "from", "q", "T")
	scans(t, "$x$it's$x$", "t", "it's")
	scans(t, "$1", "s", "$1")
}

// P4.1: limits
func TestScanLimits(t *testing.T) {
	scans(t, "")
	scans(t, strings.Repeat("a", 2000), "w", strings.Repeat("a", 2000))
	scans(t, strings.Repeat(" ", 2000))
	scans(t, strings.Repeat("\xff", 2000), "w", strings.Repeat("\xff", 2000))
	fails(t, strings.Repeat(" ", 2001), api.ErrBig, 2000)
	fails(t, strings.Repeat("a", 2001), api.ErrBig, 2000)
	fails(t, strings.Repeat("ab", 20000), api.ErrBig, 2000)
	// The length is named ahead of what is wrong within.
	fails(t, "'"+strings.Repeat("a", 2000), api.ErrBig, 2000)
	fails(t, "{"+strings.Repeat("a", 2000), api.ErrBig, 2000)
	fails(t, "'"+strings.Repeat("a", 1999), api.ErrQuote, 0)
	fails(t, strings.Repeat("a", 1999)+"{", api.ErrChar, 1999)
}

// P4.1: blanks
func TestScanBlanks(t *testing.T) {
	for _, b := range []string{" ", "\t", "\n", "\f", "\r", " \t\n\f\r\r\f\n\t "} {
		scans(t, b)
		scans(t, "a"+b+"b", "w", "a", "w", "b")
		scans(t, b+"1"+b+"2"+b, "n", "1", "n", "2")
	}
	for _, b := range []string{"\v", "\x00", "\x07", "\x1f", "\x7f"} {
		fails(t, "a"+b+"b", api.ErrChar, 1)
	}
	scans(t, "a\u00a0b", "w", "a\u00a0b")
}

// P4.1: remarks up to the end of the line
func TestScanLineRemarks(t *testing.T) {
	scans(t, "--")
	scans(t, "--a")
	scans(t, "a--b", "w", "a")
	scans(t, "a--b\nc", "w", "a", "w", "c")
	scans(t, "a--\nb", "w", "a", "w", "b")
	scans(t, "--a\n--b\n\nc--d\n", "w", "c")
	scans(t, "a---b\n-c", "w", "a", "s", "-", "w", "c")
	scans(t, "--'\"$$/*{\nb", "w", "b")
	scans(t, "a - -b", "w", "a", "s", "-", "s", "-", "w", "b")
	scans(t, "-", "s", "-")
	scans(t, "'--'a", "t", "--", "w", "a")
	scans(t, "\"--\"a", "q", "--", "w", "a")
	scans(t, "$$--$$a", "t", "--", "w", "a")
	scans(t, "1--2", "n", "1")
}

// P4.1: remarks that are closed
func TestScanRemarks(t *testing.T) {
	scans(t, "/**/")
	scans(t, "a/**/b", "w", "a", "w", "b")
	scans(t, "a /* b */ c", "w", "a", "w", "c")
	scans(t, "/* /* */ */a", "w", "a")
	scans(t, "/*/**/*/a", "w", "a")
	scans(t, "/*/* /* */ */ /**/ */a", "w", "a")
	scans(t, "/*/ */a", "w", "a")
	scans(t, "/*/*/ */ */a", "w", "a")
	scans(t, "/***/a", "w", "a")
	scans(t, "/****/a", "w", "a")
	scans(t, "/* */*/", "s", "*", "s", "/")
	scans(t, "/* '\"$${ -- */a", "w", "a")
	scans(t, "/*\n*/a", "w", "a")
	scans(t, "1/**/2", "n", "1", "n", "2")
	scans(t, "/ *", "s", "/", "s", "*")
	scans(t, "/", "s", "/")
	scans(t, "*/", "s", "*", "s", "/")
	scans(t, "'/*'a", "t", "/*", "w", "a")
	fails(t, "/*", api.ErrQuote, 0)
	fails(t, "/*/", api.ErrQuote, 0)
	fails(t, "/**", api.ErrQuote, 0)
	fails(t, "a /* b", api.ErrQuote, 2)
	fails(t, "a /* /* */", api.ErrQuote, 2)
	fails(t, "/* /*/ */", api.ErrQuote, 0)
	fails(t, "/* /* /* */ */ *", api.ErrQuote, 0)
	fails(t, "/**//*", api.ErrQuote, 4)
}

// P4.1: words
func TestScanWords(t *testing.T) {
	scans(t, "select", "w", "select")
	scans(t, "SELECT Az_9$ _ __a", "w", "select", "w", "az_9$", "w", "_", "w", "__a")
	scans(t, "ABCDEFGHIJKLMNOPQRSTUVWXYZ", "w", "abcdefghijklmnopqrstuvwxyz")
	scans(t, "abcdefghijklmnopqrstuvwxyz_0123456789$", "w", "abcdefghijklmnopqrstuvwxyz_0123456789$")
	scans(t, "a$b$c$b$", "w", "a$b$c$b$")
	scans(t, "a$$b$$", "w", "a$$b$$")
	scans(t, "a$1", "w", "a$1")
	scans(t, "a.b,c", "w", "a", "s", ".", "w", "b", "s", ",", "w", "c")
	scans(t, "a'b'", "w", "a", "t", "b")
	scans(t, "E'b'", "w", "e", "t", "b")
	scans(t, "\x80", "w", "\x80")
	scans(t, "\xff\x80A\xc3", "w", "\xff\x80a\xc3")
	scans(t, "aÄÖ", "w", "aÄÖ")
	scans(t, "Äa", "w", "Äa")
	scans(t, "\xc3a\xc3 \xe2\x82(\xf0", "w", "\xc3a\xc3", "w", "\xe2\x82", "s", "(", "w", "\xf0")
	scans(t, "\u212a\ufffdK", "w", "\u212a\ufffdk")
	fails(t, "a\x7f", api.ErrChar, 1)
}

// P4.1: which bytes a word begins with, and goes on with
func TestScanEachByte(t *testing.T) {
	const signs = "(),;.=<>+-*/%&|^~!@#?:[]"
	for c := range 256 {
		b := string([]byte{byte(c)})
		low := b
		if c < 128 {
			low = strings.ToLower(b)
		}
		switch {
		case c > 127 || c >= 'a' && c <= 'z' || c >= 'A' && c <= 'Z' || c == '_':
			scans(t, b, "w", low)
			scans(t, b+b, "w", low+low)
			scans(t, "1"+b, "n", "1", "w", low)
			scans(t, "$"+b+"1$$"+b+"1$", "t", "")
		case c >= '0' && c <= '9':
			scans(t, b, "n", b)
			scans(t, "a"+b, "w", "a"+b)
			scans(t, "1"+b, "n", "1"+b)
			scans(t, "$"+b, "s", "$"+b)
		case strings.Contains(signs, b):
			scans(t, b, "s", b)
			scans(t, "a"+b+" "+b+"(", "w", "a", "s", b, "s", b, "s", "(")
			fails(t, "$"+b+"$", api.ErrChar, 0)
		case strings.Contains(" \t\n\f\r", b):
			scans(t, b)
		case b == "'" || b == `"`:
			fails(t, b, api.ErrQuote, 0)
		default:
			fails(t, b, api.ErrChar, 0)
			fails(t, " "+b+"'", api.ErrChar, 1)
		}
	}
}

// P4.1: identifiers and texts in quotes
func TestScanQuotes(t *testing.T) {
	for kind, q := range map[string]string{"q": `"`, "t": "'"} {
		other := strings.Trim(`"'`, q)
		for s, want := range map[string]string{
			"QQ":           "",
			"QaQ":          "a",
			"QaBQ":         "aB",
			"QaQQbQ":       "aQb",
			"QQQQ":         "Q",
			"QQQaQ":        "Qa",
			"QaQQQ":        "aQ",
			"QQQQQQ":       "QQ",
			"QaQQQQbQ":     "aQQb",
			"QOQ":          "O",
			"QaOObQ":       "aOOb",
			"Q--Q":         "--",
			"Q/*Q":         "/*",
			"Q{;\x00\nÄQ":  "{;\x00\nÄ",
			"Q\xff \x80 Q": "\xff \x80 ",
			"Q$$Q":         "$$",
			"Q\\Q":         "\\",
		} {
			put := strings.NewReplacer("Q", q, "O", other)
			scans(t, put.Replace(s), kind, put.Replace(want))
			scans(t, "a"+put.Replace(s)+"b", "w", "a", kind, put.Replace(want), "w", "b")
		}
		scans(t, q+"a"+q+" "+q+"b"+q, kind, "a", kind, "b")
		for _, s := range []string{"Q", "Qa", "QQQ", "QaQQ", "QaQQb", "QQQQQ", "QaO", "Q--\n", "QO", "Qa$$"} {
			s = strings.NewReplacer("Q", q, "O", other).Replace(s)
			fails(t, s, api.ErrQuote, 0)
			fails(t, "b, "+s, api.ErrQuote, 3)
		}
	}
	scans(t, `'a'"b"'c'`, "t", "a", "q", "b", "t", "c")
}

// P4.1: texts in dollars
func TestScanDollars(t *testing.T) {
	scans(t, "$$$$", "t", "")
	scans(t, "$$a$$", "t", "a")
	scans(t, "$$A$b$$", "t", "A$b")
	scans(t, "$$ $ $$", "t", " $ ")
	scans(t, "$$''\"{--/*$$", "t", "''\"{--/*")
	scans(t, "$$a$$$$b$$", "t", "a", "t", "b")
	scans(t, "$a$$a$", "t", "")
	scans(t, "$aB_1Ä$x$aB_1Ä$", "t", "x")
	scans(t, "$_$x$_$", "t", "x")
	scans(t, "$\xff$x$\xff$", "t", "x")
	scans(t, "$a1$x$a1$y", "t", "x", "w", "y")
	scans(t, "$a$ $ab$ $A$ $ba$ a$ $$ $a $a$", "t", " $ab$ $A$ $ba$ a$ $$ $a ")
	scans(t, "$a$x$$a$", "t", "x$")
	scans(t, "$a$a$a$", "t", "a")
	scans(t, "$a$b$a$1", "t", "b", "n", "1")
	scans(t, "$ab$ $a$ $b$ $ab$", "t", " $a$ $b$ ")
	scans(t, "1$$a$$", "n", "1", "t", "a")
	scans(t, ",$$a$$", "s", ",", "t", "a")
	fails(t, "$$", api.ErrQuote, 0)
	fails(t, "$$$", api.ErrQuote, 0)
	fails(t, "$a$a$", api.ErrQuote, 0)
	fails(t, "$a$", api.ErrQuote, 0)
	fails(t, "$a$ $A$", api.ErrQuote, 0)
	fails(t, "$a$ $ab$", api.ErrQuote, 0)
	fails(t, "$ab$ $a$", api.ErrQuote, 0)
	fails(t, "$a$ $$ a$ $a", api.ErrQuote, 0)
	fails(t, "a $$ b", api.ErrQuote, 2)
	fails(t, "$$a$$ $$", api.ErrQuote, 6)
}

// P4.1: dollars that begin no text
func TestScanDollarSigns(t *testing.T) {
	scans(t, "$1", "s", "$1")
	scans(t, "$0123456789", "s", "$0123456789")
	scans(t, "$1$2", "s", "$1", "s", "$2")
	scans(t, "$12x", "s", "$12", "w", "x")
	scans(t, "$1.5", "s", "$1", "s", ".", "n", "5")
	scans(t, "$1a$x$1a$", "s", "$1", "w", "a$x$1a$")
	scans(t, "a=$1", "w", "a", "s", "=", "s", "$1")
	scans(t, "$1$$a$$", "s", "$1", "t", "a")
	scans(t, "1$1", "n", "1", "s", "$1")
	fails(t, "$", api.ErrChar, 0)
	fails(t, "1$", api.ErrChar, 1)
	fails(t, "$1$", api.ErrChar, 2)
	fails(t, "$ 1", api.ErrChar, 0)
	fails(t, "$a", api.ErrChar, 0)
	fails(t, "$a b$ $a b$", api.ErrChar, 0)
	fails(t, "$a-b$ $a-b$", api.ErrChar, 0)
	fails(t, "$ $", api.ErrChar, 0)
	fails(t, "$(", api.ErrChar, 0)
	fails(t, "a, $x", api.ErrChar, 3)
}

// P4.1: numbers
func TestScanNums(t *testing.T) {
	scans(t, "0", "n", "0")
	scans(t, "0123456789", "n", "0123456789")
	scans(t, "007", "n", "007")
	scans(t, "1.5", "n", "1.5")
	scans(t, "1.", "n", "1.")
	scans(t, "1..", "n", "1..")
	scans(t, "1.2.3", "n", "1.2.3")
	scans(t, "1..2", "n", "1..2")
	scans(t, ".5", "s", ".", "n", "5")
	scans(t, "1a", "n", "1", "w", "a")
	scans(t, "1e5", "n", "1", "w", "e5")
	scans(t, "1.e", "n", "1.", "w", "e")
	scans(t, "1_0", "n", "1", "w", "_0")
	scans(t, "1Ä", "n", "1", "w", "Ä")
	scans(t, "-1", "s", "-", "n", "1")
	scans(t, "1 2", "n", "1", "n", "2")
	scans(t, "a.1", "w", "a", "s", ".", "n", "1")
	scans(t, "a1.1", "w", "a1", "s", ".", "n", "1")
}

// P4.1: signs are one byte each
func TestScanSigns(t *testing.T) {
	const signs = "(),;.=<>+-*/%&|^~!@#?:[]"
	for _, s := range []string{signs, "<=>=!=||::[]", ";;"} {
		var want []string
		for _, c := range s {
			want = append(want, "s", string(c))
		}
		scans(t, s, want...)
	}
}

// P4.1: places
func TestScanPlaces(t *testing.T) {
	l, e, at := Scan(" A, /* Ä */\"b\"\"c\"--\n'd'$x$e$x$$1 2.5f;")
	want := []api.Token{
		{Kind: api.Word, Text: "a", At: 1},
		{Kind: api.Sign, Text: ",", At: 2},
		{Kind: api.Quoted, Text: "b\"c", At: 12},
		{Kind: api.Str, Text: "d", At: 21},
		{Kind: api.Str, Text: "e", At: 24},
		{Kind: api.Sign, Text: "$1", At: 31},
		{Kind: api.Num, Text: "2.5", At: 34},
		{Kind: api.Word, Text: "f", At: 37},
		{Kind: api.Sign, Text: ";", At: 38},
	}
	if e != api.OK || at != 0 || !slices.Equal(l, want) {
		t.Errorf("%v, %d, %d, want %v", l, e, at, want)
	}
}

// P4.1: what is wrong first, from the left, is told
func TestScanFirstFault(t *testing.T) {
	fails(t, "{ '", api.ErrChar, 0)
	fails(t, "' {", api.ErrQuote, 0)
	fails(t, "a { }", api.ErrChar, 2)
	fails(t, "a /* '", api.ErrQuote, 2)
	fails(t, "a '/*", api.ErrQuote, 2)
	fails(t, "'a' \\ 'b", api.ErrChar, 4)
	fails(t, "'a' \"b {", api.ErrQuote, 4)
}

// P4.2
func TestShow(t *testing.T) {
	for _, c := range []struct {
		l    []api.Token
		want string
	}{
		{nil, ""},
		{[]api.Token{}, ""},
		{tokens("w", "a"), "a"},
		{tokens("w", "select", "s", "*", "w", "from", "q", "T"), `select * from "T"`},
		{tokens("q", ""), `""`},
		{tokens("q", `"`), `""""`},
		{tokens("q", `"a""b"`), `"""a""""b"""`},
		{tokens("q", "a'b"), `"a'b"`},
		{tokens("t", ""), "''"},
		{tokens("t", "'"), "''''"},
		{tokens("t", "'a''b'"), "'''a''''b'''"},
		{tokens("t", `a"b`), `'a"b'`},
		{tokens("t", "a", "t", "b"), "'a' 'b'"},
		{tokens("n", "1.5", "s", "$1", "s", ";"), "1.5 $1 ;"},
		{tokens("w", `a'b"`, "n", `'"`, "s", `"'`), `a'b" '" "'`},
		{tokens("-", `a'"`, "+", `"'b`), `a'" "'b`},
		{tokens("w", "", "w", "", "w", ""), "  "},
		{tokens("w", "A\x00\xff", "t", "\x00\xff"), "A\x00\xff '\x00\xff'"},
		{[]api.Token{{Kind: -1, Text: "'", At: -5}, {Kind: 1 << 40, Text: `"`, At: 7}}, `' "`},
	} {
		if got := Show(c.l); got != c.want {
			t.Errorf("Show(%v) = %q, want %q", c.l, got, c.want)
		}
	}
}

// P4.2: there is no limit
func TestShowLong(t *testing.T) {
	l := slices.Repeat(tokens("t", "'"), 3000)
	if got := Show(l); got != strings.Repeat("'''' ", 2999)+"''''" {
		t.Errorf("%d bytes", len(got))
	}
}

// P4.3
func TestSplit(t *testing.T) {
	for _, c := range []struct {
		l    []api.Token
		want [][]api.Token
	}{
		{nil, nil},
		{[]api.Token{}, nil},
		{tokens("s", ";"), nil},
		{tokens("s", ";", "s", ";", "s", ";"), nil},
		{tokens("w", "a"), [][]api.Token{tokens("w", "a")}},
		{tokens("w", "a", "s", ";"), [][]api.Token{tokens("w", "a")}},
		{tokens("s", ";", "w", "a"), [][]api.Token{tokens("w", "a")}},
		{tokens("w", "a", "s", ";", "w", "b"), [][]api.Token{tokens("w", "a"), tokens("w", "b")}},
		{tokens("w", "a", "s", ";", "s", ";", "w", "b", "n", "1", "s", ";"), [][]api.Token{tokens("w", "a"), tokens("w", "b", "n", "1")}},
		{tokens("t", ";", "q", ";", "w", ";", "n", ";", "-", ";", "+", ";"), [][]api.Token{tokens("t", ";", "q", ";", "w", ";", "n", ";", "-", ";", "+", ";")}},
		{tokens("s", ";;", "s", "", "s", ",", "s", ":"), [][]api.Token{tokens("s", ";;", "s", "", "s", ",", "s", ":")}},
		{tokens("-", "", "s", ";", "w", ""), [][]api.Token{tokens("-", ""), tokens("w", "")}},
	} {
		got := Split(c.l)
		if !slices.EqualFunc(got, c.want, slices.Equal) {
			t.Errorf("Split(%v) = %v, want %v", c.l, got, c.want)
		}
	}
}

// P4.3: places stay as they are
func TestSplitPlaces(t *testing.T) {
	l, _, _ := Scan("a 1; 'b';;c")
	want := [][]api.Token{{{Kind: api.Word, Text: "a", At: 0}, {Kind: api.Num, Text: "1", At: 2}}, {{Kind: api.Str, Text: "b", At: 5}}, {{Kind: api.Word, Text: "c", At: 10}}}
	if got := Split(l); !slices.EqualFunc(got, want, slices.Equal) {
		t.Errorf("%v", got)
	}
}

// P4.3: lists that are answered share no memory, and what is handed in stays
func TestSplitMemory(t *testing.T) {
	l := tokens("w", "a", "s", ";", "w", "b", "s", ";", "w", "c", "w", "d")
	before := slices.Clone(l)
	got := Split(l)
	want := [][]api.Token{tokens("w", "a"), tokens("w", "b"), tokens("w", "c", "w", "d")}
	for i := range got {
		spare := got[i][:cap(got[i])]
		for j := range spare {
			spare[j] = api.Token{Kind: 9, Text: "x"}
		}
		for j := range got {
			if j > i && !slices.Equal(got[j], want[j]) {
				t.Errorf("list %d became %v", j, got[j])
			}
		}
	}
	if !slices.Equal(l, before) {
		t.Errorf("what was handed in became %v", l)
	}
}

// P4.1, P4.3: texts that are answered are new memory
func TestTextsAreNew(t *testing.T) {
	s := "aa bb $x$cc$x$ 'dd' \"ee\" 11 $22 ;"
	l, _, _ := Scan(s)
	for _, k := range l {
		if overlap(s, k.Text) {
			t.Errorf("Scan: %q lies within what was handed in", k.Text)
		}
	}
	for _, one := range Split(l) {
		for i := range one {
			if overlap(l[i].Text, one[i].Text) {
				t.Errorf("Split: %q lies within what was handed in", one[i].Text)
			}
		}
	}
}

// overlap tells whether a text lies within another one's memory.
func overlap(s, part string) bool {
	a, b := uintptr(unsafe.Pointer(unsafe.StringData(s))), uintptr(unsafe.Pointer(unsafe.StringData(part)))
	return a <= b && b < a+uintptr(len(s))
}

// parts are what random texts are made of.
var parts = []string{
	"a", "B", "_", "\xff", "Ä", "1", "23", ".", "$", "$$", "$a$", "$1", "'", "''", "\"", "\"\"",
	" ", "\n", "\t", "--", "/*", "*/", "-", "/", "*", ";", ",", "(", "{", "'x'", "\"Y\"", "select", "\x00",
}

// random is a text of some parts.
func random(r *rand.Rand) string {
	var b strings.Builder
	for range r.Intn(12) {
		b.WriteString(parts[r.Intn(len(parts))])
	}
	return b.String()
}

// P4.4: what is shown of tokens is scanned as these
func TestShownIsScanned(t *testing.T) {
	r := rand.New(rand.NewSource(4))
	right := 0
	for range 200000 {
		s := random(r)
		l, e, _ := Scan(s)
		if e != api.OK {
			continue
		}
		right++
		again, e, at := Scan(Show(l))
		if e != api.OK || at != 0 || !slices.Equal(bare(l), bare(again)) {
			t.Fatalf("%q: %v, shown as %q: %v, %d, %d", s, l, Show(l), again, e, at)
		}
	}
	if right < 20000 {
		t.Errorf("only %d texts were right", right)
	}
}

// P4.4: all tokens of all statements, shown and scanned, are those of the whole but for the Signs ;
func TestSplitLosesNothing(t *testing.T) {
	r := rand.New(rand.NewSource(5))
	for range 100000 {
		l, _, _ := Scan(random(r))
		var want, got []api.Token
		for _, k := range l {
			if k.Kind != api.Sign || k.Text != ";" {
				want = append(want, k)
			}
		}
		for _, one := range Split(l) {
			if len(one) == 0 {
				t.Fatal("an empty list")
			}
			got = append(got, one...)
		}
		if !slices.Equal(got, want) {
			t.Fatalf("%v, want %v", got, want)
		}
	}
}

// P4.1: at a fault's place a text has been right up to there; tokens stand in order
func TestScanFaultsAndOrder(t *testing.T) {
	r := rand.New(rand.NewSource(6))
	for range 100000 {
		s := random(r)
		l, e, at := Scan(s)
		if e != api.OK {
			if _, e, _ := Scan(s[:at]); e != api.OK || len(l) != 0 {
				t.Fatalf("%q: fault at %d, and %d ahead of it", s, at, e)
			}
			if _, again, first := Scan(s[at:]); again != e || first != 0 {
				t.Fatalf("%q: %d at %d, but %d at %d from there on", s, e, at, again, first)
			}
			continue
		}
		for i, k := range l {
			end := len(s)
			if i+1 < len(l) {
				end = l[i+1].At
			}
			if one, e, _ := Scan(s[k.At:end]); k.At >= end || e != api.OK || len(one) != 1 || one[0] != (api.Token{Kind: k.Kind, Text: k.Text}) {
				t.Fatalf("%q: token %v, alone %v", s, k, one)
			}
		}
	}
}

// P4.1: what is answered hangs on the text alone, and is the asker's own
func TestScanAgain(t *testing.T) {
	const s = "select 'a' ; 1"
	l, _, _ := Scan(s)
	want := slices.Clone(l)
	clear(l[:cap(l)])
	if again, e, at := Scan(s); e != api.OK || at != 0 || !slices.Equal(again, want) {
		t.Errorf("%v", again)
	}
}
