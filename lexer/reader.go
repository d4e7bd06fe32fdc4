package lexer

import (
	"strings"

	"pontoon/api"
)

// none is the kind of what is no token: blanks and remarks.
const none = 0

// open is the size of what begins, and does not end.
const open = -1

// blanks are the bytes that stand between tokens.
const blanks = " \t\n\f\r"

// signs are the bytes of which each is a Sign alone.
const signs = "(),;.=<>+-*/%&|^~!@#?:[]"

// piece is what a text begins with: its kind, what it says as a token, how many bytes it has.
// Where a text begins with no such thing, it has none.
type piece struct {
	kind int
	text string
	size int
}

// readers are what finds each piece at the beginning of a text that isn't empty.
// Remarks begin with bytes that are Signs too, so those come last.
func readers() []func(string) piece {
	return []func(string) piece{gap, lineRemark, remark, word, quoted, str, dollars, num, param, sign}
}

// gap reads blanks.
func gap(s string) piece {
	return piece{size: row(s, blank)}
}

// lineRemark reads a remark up to the end of the line.
func lineRemark(s string) piece {
	if !strings.HasPrefix(s, "--") {
		return piece{}
	}
	line, _, _ := strings.Cut(s, "\n")
	return piece{size: len(line)}
}

// remark reads a remark that is closed, and those within.
func remark(s string) piece {
	if !strings.HasPrefix(s, "/*") {
		return piece{}
	}
	deep, at := 1, 2
	for deep > 0 {
		switch {
		case at == len(s):
			return piece{size: open}
		case strings.HasPrefix(s[at:], "/*"):
			deep++
			at += 2
		case strings.HasPrefix(s[at:], "*/"):
			deep--
			at += 2
		default:
			at++
		}
	}
	return piece{size: at}
}

// word reads an identifier, or a keyword.
func word(s string) piece {
	if row(s, letter) == 0 {
		return piece{}
	}
	n := row(s, inWord)
	return piece{kind: api.Word, text: small(s[:n]), size: n}
}

// quoted reads an identifier in quotes.
func quoted(s string) piece {
	return between(s, '"', api.Quoted)
}

// str reads a text in quotes.
func str(s string) piece {
	return between(s, '\'', api.Str)
}

// between reads what stands between quotes, where two of them are one that doesn't end it.
func between(s string, q byte, kind int) piece {
	if s[0] != q {
		return piece{}
	}
	var text []byte
	for at := 1; at < len(s); at++ {
		if s[at] == q {
			at++
			if at == len(s) || s[at] != q {
				return piece{kind: kind, text: string(text), size: at}
			}
		}
		text = append(text, s[at])
	}
	return piece{size: open}
}

// dollars reads a text between marks.
func dollars(s string) piece {
	m := mark(s)
	if m == "" {
		return piece{}
	}
	text, _, ends := strings.Cut(s[len(m):], m)
	if !ends {
		return piece{size: open}
	}
	return piece{kind: api.Str, text: strings.Clone(text), size: len(m) + len(text) + len(m)}
}

// mark is the tag and its dollars that a text begins with, or nothing.
func mark(s string) string {
	rest, begins := strings.CutPrefix(s, "$")
	tag, _, ends := strings.Cut(rest, "$")
	if !begins || !ends || !isTag(tag) {
		return ""
	}
	return s[:len("$")+len(tag)+len("$")]
}

// isTag tells whether a text may stand between the dollars of a mark.
func isTag(s string) bool {
	return s == "" || row(s, letter) > 0 && row(s, inTag) == len(s)
}

// num reads digits and points.
func num(s string) piece {
	if row(s, digit) == 0 {
		return piece{}
	}
	n := row(s, inNum)
	return piece{kind: api.Num, text: strings.Clone(s[:n]), size: n}
}

// param reads a dollar and digits.
func param(s string) piece {
	rest, begins := strings.CutPrefix(s, "$")
	n := row(rest, digit)
	if !begins || n == 0 {
		return piece{}
	}
	n += len("$")
	return piece{kind: api.Sign, text: strings.Clone(s[:n]), size: n}
}

// sign reads a byte that is a Sign alone.
func sign(s string) piece {
	if strings.IndexByte(signs, s[0]) < 0 {
		return piece{}
	}
	return piece{kind: api.Sign, text: strings.Clone(s[:1]), size: 1}
}

// row is how many bytes stand at the beginning of a text whose letters are all of a sort.
func row(s string, fits func(rune) bool) int {
	for i, r := range s {
		if !fits(r) {
			return i
		}
	}
	return len(s)
}

// blank tells whether a letter stands between tokens.
func blank(r rune) bool {
	return strings.ContainsRune(blanks, r)
}

// letter tells whether a word can begin with a letter.
// Bytes above 127 are told as runes above 127, those that make no rune too.
func letter(r rune) bool {
	return r >= 'a' && r <= 'z' || r >= 'A' && r <= 'Z' || r == '_' || r > 127
}

// digit tells whether a letter is a digit.
func digit(r rune) bool {
	return r >= '0' && r <= '9'
}

// inWord tells whether a word can go on with a letter.
func inWord(r rune) bool {
	return letter(r) || digit(r) || r == '$'
}

// inTag tells whether a tag can go on with a letter.
func inTag(r rune) bool {
	return letter(r) || digit(r)
}

// inNum tells whether a number can go on with a letter.
func inNum(r rune) bool {
	return digit(r) || r == '.'
}

// small is a text with A to Z in small letters, all other bytes as they are.
func small(s string) string {
	b := []byte(s)
	for i, c := range b {
		if c >= 'A' && c <= 'Z' {
			b[i] = c - 'A' + 'a'
		}
	}
	return string(b)
}
