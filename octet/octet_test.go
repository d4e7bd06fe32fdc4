package octet

import (
	"math"
	"strings"
	"testing"

	"pontoon/api"
)

// edges are numbers at, and beyond, the ends of 16, 32 and 64 bits.
var edges = []int{
	0, 1, -1, 127, 128, 255, 256, 258, -255, -256, -257,
	1<<15 - 1, 1 << 15, -1 << 15, -1<<15 - 1, 1<<16 - 1, 1 << 16, 1<<16 + 1, -1 << 16,
	1<<31 - 1, 1 << 31, -1 << 31, -1<<31 - 1, 1<<32 - 1, 1 << 32, 1<<32 + 1, -1 << 32,
	math.MaxInt, math.MinInt, math.MaxInt - 1, math.MinInt + 1,
}

// remainder is n modulo 2^bits, as the number with sign that has the same bits.
func remainder(n int, bits uint) int {
	m := 1 << bits
	r := (n%m + m) % m
	if r >= m/2 {
		r -= m
	}
	return r
}

// P1.1
func TestPut16(t *testing.T) {
	for _, c := range []struct {
		s    string
		n    int
		want string
	}{
		{"", 0, "\x00\x00"},
		{"a", 258, "a\x01\x02"},
		{"", 255, "\x00\xff"},
		{"", 256, "\x01\x00"},
		{"", -1, "\xff\xff"},
		{"", -2, "\xff\xfe"},
		{"", -32768, "\x80\x00"},
		{"", 32767, "\x7f\xff"},
		{"", 32768, "\x80\x00"},
		{"", -32769, "\x7f\xff"},
		{"", 65535, "\xff\xff"},
		{"", 65536, "\x00\x00"},
		{"", 65537, "\x00\x01"},
		{"", -65537, "\xff\xff"},
		{"", 1<<40 + 0x1234, "\x12\x34"},
		{"", math.MaxInt, "\xff\xff"},
		{"", math.MinInt, "\x00\x00"},
		{"\x00b\xff", 1, "\x00b\xff\x00\x01"},
	} {
		if got := Put16(c.s, c.n); got != c.want {
			t.Errorf("Put16(%q, %d) = %q, want %q", c.s, c.n, got, c.want)
		}
	}
}

// P1.1
func TestPut32(t *testing.T) {
	for _, c := range []struct {
		s    string
		n    int
		want string
	}{
		{"", 0, "\x00\x00\x00\x00"},
		{"x", 0x01020304, "x\x01\x02\x03\x04"},
		{"", 196608, "\x00\x03\x00\x00"},
		{"", 65536, "\x00\x01\x00\x00"},
		{"", -1, "\xff\xff\xff\xff"},
		{"", -2, "\xff\xff\xff\xfe"},
		{"", -32768, "\xff\xff\x80\x00"},
		{"", 1<<31 - 1, "\x7f\xff\xff\xff"},
		{"", 1 << 31, "\x80\x00\x00\x00"},
		{"", -1 << 31, "\x80\x00\x00\x00"},
		{"", -1<<31 - 1, "\x7f\xff\xff\xff"},
		{"", 1<<32 - 1, "\xff\xff\xff\xff"},
		{"", 1 << 32, "\x00\x00\x00\x00"},
		{"", 1<<32 + 7, "\x00\x00\x00\x07"},
		{"", -1<<32 - 1, "\xff\xff\xff\xff"},
		{"", math.MaxInt, "\xff\xff\xff\xff"},
		{"", math.MinInt, "\x00\x00\x00\x00"},
		{"\x00b\xff", 1, "\x00b\xff\x00\x00\x00\x01"},
	} {
		if got := Put32(c.s, c.n); got != c.want {
			t.Errorf("Put32(%q, %d) = %q, want %q", c.s, c.n, got, c.want)
		}
	}
}

// P1.2
func TestPutText(t *testing.T) {
	for _, c := range []struct{ s, t, want string }{
		{"", "", "\x00"},
		{"", "ab", "ab\x00"},
		{"", "a\x00b", "a\x00"},
		{"", "\x00", "\x00"},
		{"", "\x00ab", "\x00"},
		{"", "ab\x00", "ab\x00"},
		{"", "a\x00b\x00c", "a\x00"},
		{"", "\xff\xfe\x80", "\xff\xfe\x80\x00"},
		{"x", "", "x\x00"},
		{"x", "y", "xy\x00"},
		{"a\x00b", "c\x00d", "a\x00bc\x00"},
		{"a\x00", "", "a\x00\x00"},
	} {
		if got := PutText(c.s, c.t); got != c.want {
			t.Errorf("PutText(%q, %q) = %q, want %q", c.s, c.t, got, c.want)
		}
	}
}

// number is a call of Get16 or Get32, and what it ought to answer.
type number struct {
	s         string
	at        int
	n, behind int
	err       api.Errno
}

func checkNumbers(t *testing.T, name string, get func(string, int) (int, int, api.Errno), cases []number) {
	t.Helper()
	for _, c := range cases {
		n, behind, err := get(c.s, c.at)
		if n != c.n || behind != c.behind || err != c.err {
			t.Errorf("%s(%q, %d) = %d, %d, %d, want %d, %d, %d", name, c.s, c.at, n, behind, err, c.n, c.behind, c.err)
		}
	}
}

// P1.3
func TestGet16(t *testing.T) {
	checkNumbers(t, "Get16", Get16, []number{
		{"\x00\x00", 0, 0, 2, api.OK},
		{"\x01\x02", 0, 258, 2, api.OK},
		{"\x00\xff", 0, 255, 2, api.OK},
		{"\xff\x00", 0, -256, 2, api.OK},
		{"\xff\xff", 0, -1, 2, api.OK},
		{"\x7f\xff", 0, 32767, 2, api.OK},
		{"\x80\x00", 0, -32768, 2, api.OK},
		{"a\x01\x02b", 1, 258, 3, api.OK},
		{"ab\x01\x02", 2, 258, 4, api.OK},
		{"ab\x01\x02", 1, 0x6201, 3, api.OK},

		{"", 0, 0, 0, api.ErrShort},
		{"a", 0, 0, 0, api.ErrShort},
		{"a", 1, 0, 0, api.ErrShort},
		{"abc", 2, 0, 0, api.ErrShort},
		{"abc", 3, 0, 0, api.ErrShort},

		{"", 1, 0, 0, api.ErrArg},
		{"", -1, 0, 0, api.ErrArg},
		{"abc", -1, 0, 0, api.ErrArg},
		{"abc", 4, 0, 0, api.ErrArg},
		{"abc", math.MaxInt, 0, 0, api.ErrArg},
		{"abc", math.MinInt, 0, 0, api.ErrArg},
	})
}

// P1.3
func TestGet32(t *testing.T) {
	checkNumbers(t, "Get32", Get32, []number{
		{"\x00\x00\x00\x00", 0, 0, 4, api.OK},
		{"\x01\x02\x03\x04", 0, 0x01020304, 4, api.OK},
		{"\x00\x00\xff\xff", 0, 65535, 4, api.OK},
		{"\x00\x00\x80\x00", 0, 32768, 4, api.OK},
		{"\xff\xff\xff\xff", 0, -1, 4, api.OK},
		{"\xff\x00\x00\x00", 0, -1 << 24, 4, api.OK},
		{"\x7f\xff\xff\xff", 0, 1<<31 - 1, 4, api.OK},
		{"\x80\x00\x00\x00", 0, -1 << 31, 4, api.OK},
		{"a\x00\x00\x01\x02b", 1, 258, 5, api.OK},
		{"ab\x00\x00\x01\x02", 2, 258, 6, api.OK},

		{"", 0, 0, 0, api.ErrShort},
		{"abc", 0, 0, 0, api.ErrShort},
		{"abcd", 1, 0, 0, api.ErrShort},
		{"abcd", 3, 0, 0, api.ErrShort},
		{"abcd", 4, 0, 0, api.ErrShort},

		{"", 1, 0, 0, api.ErrArg},
		{"", -1, 0, 0, api.ErrArg},
		{"abcd", -1, 0, 0, api.ErrArg},
		{"abcd", 5, 0, 0, api.ErrArg},
		{"abcd", math.MaxInt, 0, 0, api.ErrArg},
		{"abcd", math.MinInt, 0, 0, api.ErrArg},
	})
}

// P1.4
func TestGetText(t *testing.T) {
	for _, c := range []struct {
		s      string
		at     int
		text   string
		behind int
		err    api.Errno
	}{
		{"ab\x00", 0, "ab", 3, api.OK},
		{"ab\x00", 1, "b", 3, api.OK},
		{"ab\x00", 2, "", 3, api.OK},
		{"\x00", 0, "", 1, api.OK},
		{"\x00\x00", 1, "", 2, api.OK},
		{"a\x00b\x00c", 0, "a", 2, api.OK},
		{"a\x00b\x00c", 2, "b", 4, api.OK},
		{"\xff\x80\x00", 0, "\xff\x80", 3, api.OK},

		{"", 0, "", 0, api.ErrShort},
		{"ab", 0, "", 0, api.ErrShort},
		{"ab\x00", 3, "", 0, api.ErrShort},
		{"a\x00b", 2, "", 0, api.ErrShort},

		{"", 1, "", 0, api.ErrArg},
		{"", -1, "", 0, api.ErrArg},
		{"a\x00", -1, "", 0, api.ErrArg},
		{"a\x00", 3, "", 0, api.ErrArg},
		{"a\x00", math.MaxInt, "", 0, api.ErrArg},
		{"a\x00", math.MinInt, "", 0, api.ErrArg},
	} {
		text, behind, err := GetText(c.s, c.at)
		if text != c.text || behind != c.behind || err != c.err {
			t.Errorf("GetText(%q, %d) = %q, %d, %d, want %q, %d, %d", c.s, c.at, text, behind, err, c.text, c.behind, c.err)
		}
	}
}

// P1.4
func TestGetBytes(t *testing.T) {
	for _, c := range []struct {
		s      string
		at, n  int
		bytes  string
		behind int
		err    api.Errno
	}{
		{"abc", 0, 3, "abc", 3, api.OK},
		{"abc", 0, 1, "a", 1, api.OK},
		{"abc", 1, 2, "bc", 3, api.OK},
		{"a\x00b", 0, 3, "a\x00b", 3, api.OK},
		{"\x00\xff", 0, 2, "\x00\xff", 2, api.OK},
		{"", 0, 0, "", 0, api.OK},
		{"abc", 0, 0, "", 0, api.OK},
		{"abc", 2, 0, "", 2, api.OK},
		{"abc", 3, 0, "", 3, api.OK},

		{"", 0, 1, "", 0, api.ErrShort},
		{"abc", 0, 4, "", 0, api.ErrShort},
		{"abc", 2, 2, "", 0, api.ErrShort},
		{"abc", 3, 1, "", 0, api.ErrShort},
		{"abc", 0, math.MaxInt, "", 0, api.ErrShort},
		{"abc", 3, math.MaxInt, "", 0, api.ErrShort},

		{"", 1, 0, "", 0, api.ErrArg},
		{"abc", -1, 0, "", 0, api.ErrArg},
		{"abc", -1, 2, "", 0, api.ErrArg},
		{"abc", 4, 0, "", 0, api.ErrArg},
		{"abc", 0, -1, "", 0, api.ErrArg},
		{"abc", 3, -1, "", 0, api.ErrArg},
		{"abc", 2, -2, "", 0, api.ErrArg},
		{"abc", 5, -2, "", 0, api.ErrArg},
		{"abc", 4, 9, "", 0, api.ErrArg},
		{"abc", -1, 9, "", 0, api.ErrArg},
		{"abc", math.MaxInt, math.MaxInt, "", 0, api.ErrArg},
		{"abc", math.MinInt, math.MinInt, "", 0, api.ErrArg},
		{"abc", 0, math.MinInt, "", 0, api.ErrArg},
	} {
		bytes, behind, err := GetBytes(c.s, c.at, c.n)
		if bytes != c.bytes || behind != c.behind || err != c.err {
			t.Errorf("GetBytes(%q, %d, %d) = %q, %d, %d, want %q, %d, %d", c.s, c.at, c.n, bytes, behind, err, c.bytes, c.behind, c.err)
		}
	}
}

// P1.5
func TestNumbersPutAreGot(t *testing.T) {
	for _, head := range []string{"", "a", "\x00\xff"} {
		for _, n := range edges {
			got, behind, err := Get16(Put16(head, n)+"tail", len(head))
			if got != remainder(n, 16) || behind != len(head)+2 || err != api.OK {
				t.Errorf("Get16 of Put16(%q, %d) = %d, %d, %d", head, n, got, behind, err)
			}
			got, behind, err = Get32(Put32(head, n)+"tail", len(head))
			if got != remainder(n, 32) || behind != len(head)+4 || err != api.OK {
				t.Errorf("Get32 of Put32(%q, %d) = %d, %d, %d", head, n, got, behind, err)
			}
		}
	}
}

// P1.5
func TestAllNumbersOf16BitsAreGot(t *testing.T) {
	for n := -1 << 15; n < 1<<15; n++ {
		if got, behind, err := Get16(Put16("", n), 0); got != n || behind != 2 || err != api.OK {
			t.Fatalf("Get16 of Put16(%d) = %d, %d, %d", n, got, behind, err)
		}
	}
}

// P1.5
func TestTextsPutAreGot(t *testing.T) {
	for _, head := range []string{"", "a", "\x00\xff"} {
		for _, text := range []string{"", "a", "ab", "\xff\x80\x01", strings.Repeat("x", 5000)} {
			got, behind, err := GetText(PutText(head, text)+"tail\x00", len(head))
			if got != text || behind != len(head)+len(text)+1 || err != api.OK {
				t.Errorf("GetText of PutText(%q, %q) = %q, %d, %d", head, text, got, behind, err)
			}
			got, behind, err = GetBytes(head+text+"tail", len(head), len(text))
			if got != text || behind != len(head)+len(text) || err != api.OK {
				t.Errorf("GetBytes of %q behind %q = %q, %d, %d", text, head, got, behind, err)
			}
		}
	}
}

// P1.5
func TestARowOfThingsIsGot(t *testing.T) {
	s := PutText(Put32(PutText(Put16("", -7), "a\x00b"), 1<<31-1), "") + "xyz"
	n, at, err := Get16(s, 0)
	if n != -7 || at != 2 || err != api.OK {
		t.Fatal(n, at, err)
	}
	text, at, err := GetText(s, at)
	if text != "a" || at != 4 || err != api.OK {
		t.Fatal(text, at, err)
	}
	n, at, err = Get32(s, at)
	if n != 1<<31-1 || at != 8 || err != api.OK {
		t.Fatal(n, at, err)
	}
	text, at, err = GetText(s, at)
	if text != "" || at != 9 || err != api.OK {
		t.Fatal(text, at, err)
	}
	text, at, err = GetBytes(s, at, 3)
	if text != "xyz" || at != 12 || err != api.OK {
		t.Fatal(text, at, err)
	}
	if text, at, err = GetBytes(s, at, 0); text != "" || at != 12 || err != api.OK {
		t.Fatal(text, at, err)
	}
}

// P1.5: a place that is answered is within the text, and beyond the one that was asked of, but where no bytes were.
// Beside an error there is nothing.
func TestPlacesRise(t *testing.T) {
	texts := []string{"", "\x00", "a", "ab", "a\x00b", "\x00\x00\x00\x00\x00", "abcdef\x00\xff\x80"}
	rises := func(name, s string, at, least, behind int, empty bool, err api.Errno) {
		if err == api.OK && (behind < at+least || behind > len(s)) {
			t.Errorf("%s of %q at %d: the place behind is %d", name, s, at, behind)
		}
		if err != api.OK && (behind != 0 || !empty) {
			t.Errorf("%s of %q at %d: something beside the error %d", name, s, at, err)
		}
	}
	for _, s := range texts {
		for at := -2; at <= len(s)+2; at++ {
			n, behind, err := Get16(s, at)
			rises("Get16", s, at, 2, behind, n == 0, err)
			n, behind, err = Get32(s, at)
			rises("Get32", s, at, 4, behind, n == 0, err)
			text, behind, err := GetText(s, at)
			rises("GetText", s, at, 1, behind, text == "", err)
			for n := -2; n <= len(s)+2; n++ {
				text, behind, err = GetBytes(s, at, n)
				rises("GetBytes", s, at, max(n, 0), behind, text == "", err)
			}
		}
	}
}
