// Package octet reads and writes numbers and texts as bytes.
package octet

import (
	"strings"

	"pontoon/api"
)

// piece is what was got of a text: its bytes, and the place behind them.
// A piece of no bytes at place 0 is something, so there tells it from nothing.
type piece struct {
	bytes  string
	behind int
	there  bool
}

// Put16 puts a number of two bytes behind a text.
func Put16(s string, n int) string {
	return s + string([]byte{byte(n >> 8), byte(n)})
}

// Put32 puts a number of four bytes behind a text.
func Put32(s string, n int) string {
	return s + string([]byte{byte(n >> 24), byte(n >> 16), byte(n >> 8), byte(n)})
}

// PutText puts a text with an end behind a text.
func PutText(s, t string) string {
	// A byte 0 within t would be read as its end.
	head, _, _ := strings.Cut(t, "\x00")
	return s + head + "\x00"
}

// Get16 gets a number of two bytes.
func Get16(s string, at int) (int, int, api.Errno) {
	n, behind, err := unsigned(s, at, 2)
	return int(int16(n)), behind, err
}

// Get32 gets a number of four bytes.
func Get32(s string, at int) (int, int, api.Errno) {
	n, behind, err := unsigned(s, at, 4)
	return int(int32(n)), behind, err
}

// GetText gets a text up to its end.
func GetText(s string, at int) (string, int, api.Errno) {
	return tell(closed(s, at), s, at)
}

// GetBytes gets so many bytes.
func GetBytes(s string, at, n int) (string, int, api.Errno) {
	if n < 0 {
		return "", 0, api.ErrArg
	}
	return tell(counted(s, at, n), s, at)
}

// unsigned gets a number without sign of so many bytes, at most four.
func unsigned(s string, at, width int) (uint32, int, api.Errno) {
	p := counted(s, at, width)
	if p == (piece{}) {
		return 0, 0, why(s, at)
	}
	var n uint32
	for i := range width {
		n = n<<8 | uint32(p.bytes[i])
	}
	return n, p.behind, api.OK
}

// tell answers a piece, or why there is none.
func tell(p piece, s string, at int) (string, int, api.Errno) {
	if p == (piece{}) {
		return "", 0, why(s, at)
	}
	// An answer shares no memory with what was handed in.
	return strings.Clone(p.bytes), p.behind, api.OK
}

// counted is the piece of n bytes, n not below 0, from a place on.
func counted(s string, at, n int) piece {
	// at+n may be more than an int holds, so n is held against what is left.
	if !within(s, at) || n > len(s)-at {
		return piece{}
	}
	return piece{bytes: s[at : at+n], behind: at + n, there: true}
}

// closed is the piece from a place on that a byte 0 ends.
func closed(s string, at int) piece {
	if !within(s, at) {
		return piece{}
	}
	n := strings.IndexByte(s[at:], 0)
	if n < 0 {
		return piece{}
	}
	return piece{bytes: s[at : at+n], behind: at + n + 1, there: true}
}

// why is the error of nothing at a place.
func why(s string, at int) api.Errno {
	if !within(s, at) {
		return api.ErrArg
	}
	return api.ErrShort
}

// within tells whether a place is one of the text, or its end.
func within(s string, at int) bool {
	return at >= 0 && at <= len(s)
}
