package frame

import (
	"slices"
	"strings"
	"testing"

	"pontoon/api"
)

// longest is the Body of the greatest message that is right.
var longest = strings.Repeat("x", 4092)

// rightKind tells whether the document lets a message have this Kind.
func rightKind(kind int) bool {
	return kind == 0 || kind >= 33 && kind <= 126
}

// fed is what a reader answers when bytes are fed to it piece by piece: all messages, and the last error.
func fed(r *Reader, pieces ...string) ([]api.Msg, api.Errno) {
	var all []api.Msg
	var last api.Errno
	for _, s := range pieces {
		l, err := r.Feed(s)
		all = append(all, l...)
		last = err
	}
	return all, last
}

// stands checks where a reader stands.
func stands(t *testing.T, what string, r *Reader, rest string, bad api.Errno) {
	t.Helper()
	if r.Rest() != rest || r.Bad() != bad {
		t.Errorf("%s: Rest %q, Bad %d, want %q, %d", what, r.Rest(), r.Bad(), rest, bad)
	}
}

// feeds checks what a reader answers to some bytes.
func feeds(t *testing.T, what string, r *Reader, s string, want []api.Msg, bad api.Errno) {
	t.Helper()
	l, err := r.Feed(s)
	if !slices.Equal(l, want) || err != bad {
		t.Errorf("%s: Feed(%q) = %q, %d, want %q, %d", what, s, l, err, want, bad)
	}
}

// P2.1
func TestRightOfEachKind(t *testing.T) {
	for kind := range 256 {
		for _, size := range []int{0, 1, 4091, 4092} {
			if got := Right(api.Msg{Kind: byte(kind), Body: longest[:size]}); got != rightKind(kind) {
				t.Errorf("Right of Kind %d and %d bytes = %t", kind, size, got)
			}
		}
		for _, size := range []int{4093, 4094, 4096, 4097, 70000} {
			if Right(api.Msg{Kind: byte(kind), Body: strings.Repeat("x", size)}) {
				t.Errorf("Right of Kind %d and %d bytes", kind, size)
			}
		}
	}
}

// P2.1
func TestPut(t *testing.T) {
	for _, c := range []struct {
		m    api.Msg
		want string
	}{
		{api.Msg{Kind: 'Q', Body: "h\x00"}, "Q\x00\x00\x00\x06h\x00"},
		{api.Msg{Kind: 'S'}, "S\x00\x00\x00\x04"},
		{api.Msg{Kind: 33, Body: "\x00"}, "!\x00\x00\x00\x05\x00"},
		{api.Msg{Kind: 126, Body: "\xff\x80"}, "~\x00\x00\x00\x06\xff\x80"},
		{api.Msg{Kind: 'd', Body: longest[:252]}, "d\x00\x00\x01\x00" + longest[:252]},
		{api.Msg{Kind: 'd', Body: longest}, "d\x00\x00\x10\x00" + longest},
		{api.Msg{}, "\x00\x00\x00\x04"},
		{api.Msg{Body: "ab"}, "\x00\x00\x00\x06ab"},
		{api.Msg{Body: longest}, "\x00\x00\x10\x00" + longest},

		{api.Msg{Kind: 'd', Body: longest + "x"}, ""},
		{api.Msg{Body: longest + "x"}, ""},
		{api.Msg{Kind: 1}, ""},
		{api.Msg{Kind: 31, Body: "a"}, ""},
		{api.Msg{Kind: 32, Body: "a"}, ""},
		{api.Msg{Kind: 127, Body: "a"}, ""},
		{api.Msg{Kind: 128}, ""},
		{api.Msg{Kind: 255}, ""},
	} {
		if got := Put(c.m); got != c.want {
			t.Errorf("Put(%d, %q) = %q, want %q", c.m.Kind, c.m.Body, got, c.want)
		}
	}
}

// P2.2
func TestNewWasFedNothing(t *testing.T) {
	for _, first := range []bool{false, true} {
		stands(t, "New", New(first), "", api.OK)
	}
	feeds(t, "first", New(true), "\x00\x00\x00\x06ab", []api.Msg{{Body: "ab"}}, api.OK)
	feeds(t, "not first", New(false), "Q\x00\x00\x00\x06ab", []api.Msg{{Kind: 'Q', Body: "ab"}}, api.OK)
}

// P2.2
func TestFeed(t *testing.T) {
	q, s := api.Msg{Kind: 'Q', Body: "h\x00"}, api.Msg{Kind: 'S'}
	for _, c := range []struct {
		s    string
		want []api.Msg
		rest string
		bad  api.Errno
	}{
		{"", nil, "", api.OK},
		{"Q\x00\x00\x00\x06h\x00", []api.Msg{q}, "", api.OK},
		{"S\x00\x00\x00\x04", []api.Msg{s}, "", api.OK},
		{"S\x00\x00\x00\x04Q\x00\x00\x00\x06h\x00S\x00\x00\x00\x04", []api.Msg{s, q, s}, "", api.OK},
		{"d\x00\x00\x10\x00" + longest, []api.Msg{{Kind: 'd', Body: longest}}, "", api.OK},
		{"d\x00\x00\x10\x00" + longest + "y", []api.Msg{{Kind: 'd', Body: longest}}, "y", api.OK},
		{"S\x00\x00\x00\x05\x00\x00", []api.Msg{{Kind: 'S', Body: "\x00"}}, "\x00", api.OK},

		// What is not all there yet waits.
		{"Q", nil, "Q", api.OK},
		{"Q\x00\x00\x00", nil, "Q\x00\x00\x00", api.OK},
		{"Q\x00\x00\x00\x06", nil, "Q\x00\x00\x00\x06", api.OK},
		{"Q\x00\x00\x00\x06h", nil, "Q\x00\x00\x00\x06h", api.OK},
		{"d\x00\x00\x10\x00" + longest[1:], nil, "d\x00\x00\x10\x00" + longest[1:], api.OK},
		{"S\x00\x00\x00\x04Q\x00", []api.Msg{s}, "Q\x00", api.OK},

		// A Kind that can't be is wrong when the number is there, not before.
		{"\x20\x00\x00\x00", nil, "\x20\x00\x00\x00", api.OK},
		{"\x20\x00\x00\x00\x04", nil, "\x20\x00\x00\x00\x04", api.ErrKind},
		{"\x7f\x00\x00\x00\x04", nil, "\x7f\x00\x00\x00\x04", api.ErrKind},
		{"\x00\x00\x00\x00\x04", nil, "\x00\x00\x00\x00\x04", api.ErrKind},
		{"\xff\x00\x00\x00\x04", nil, "\xff\x00\x00\x00\x04", api.ErrKind},
		{"\x20\x00\x00\x00\x09", nil, "\x20\x00\x00\x00\x09", api.ErrKind},

		// The Kind is named ahead of the number.
		{"\x20\x00\x00\x00\x03", nil, "\x20\x00\x00\x00\x03", api.ErrKind},
		{"\x20\x00\x00\x10\x01", nil, "\x20\x00\x00\x10\x01", api.ErrKind},

		// The number has a sign, and is wrong whether or not its Body is there.
		{"Q\x00\x00\x00\x03", nil, "Q\x00\x00\x00\x03", api.ErrForm},
		{"Q\x00\x00\x00\x00", nil, "Q\x00\x00\x00\x00", api.ErrForm},
		{"Q\xff\xff\xff\xff", nil, "Q\xff\xff\xff\xff", api.ErrForm},
		{"Q\x80\x00\x00\x00", nil, "Q\x80\x00\x00\x00", api.ErrForm},
		{"Q\x00\x00\x10\x01", nil, "Q\x00\x00\x10\x01", api.ErrBig},
		{"Q\x00\x01\x00\x04", nil, "Q\x00\x01\x00\x04", api.ErrBig},
		{"Q\x7f\xff\xff\xff", nil, "Q\x7f\xff\xff\xff", api.ErrBig},
		{"Q\x00\x00\x10\x01" + longest + "x", nil, "Q\x00\x00\x10\x01" + longest + "x", api.ErrBig},

		// Messages ahead of one that is wrong are told; what is behind it is not.
		{"S\x00\x00\x00\x04Q\x00\x00\x00\x03S\x00\x00\x00\x04", []api.Msg{s}, "Q\x00\x00\x00\x03S\x00\x00\x00\x04", api.ErrForm},
		{"S\x00\x00\x00\x04Q\x00\x00\x10\x01", []api.Msg{s}, "Q\x00\x00\x10\x01", api.ErrBig},
		{"S\x00\x00\x00\x04S\x00\x00\x00\x04\n\x00\x00\x00\x04", []api.Msg{s, s}, "\n\x00\x00\x00\x04", api.ErrKind},
	} {
		r := New(false)
		feeds(t, "not first", r, c.s, c.want, c.bad)
		stands(t, "behind "+c.s, r, c.rest, c.bad)
	}
}

// P2.2
func TestFeedOfAFirstMessage(t *testing.T) {
	s := api.Msg{Kind: 'S'}
	for _, c := range []struct {
		s    string
		want []api.Msg
		rest string
		bad  api.Errno
	}{
		{"\x00\x00\x00\x08\x00\x03\x00\x00", []api.Msg{{Body: "\x00\x03\x00\x00"}}, "", api.OK},
		{"\x00\x00\x00\x04", []api.Msg{{}}, "", api.OK},
		{"\x00\x00\x10\x00" + longest, []api.Msg{{Body: longest}}, "", api.OK},

		{"\x00\x00\x00", nil, "\x00\x00\x00", api.OK},
		{"\x00\x00\x00\x05", nil, "\x00\x00\x00\x05", api.OK},

		// Its first byte is no Kind.
		{"\x20\x00\x00", nil, "\x20\x00\x00", api.OK},
		{"\x20\x00\x00\x00\x04", nil, "\x20\x00\x00\x00\x04", api.ErrBig},
		{"S\x00\x00\x00\x04", nil, "S\x00\x00\x00\x04", api.ErrBig},
		{"\x00\x00\x00\x03", nil, "\x00\x00\x00\x03", api.ErrForm},
		{"\xff\xff\xff\xff", nil, "\xff\xff\xff\xff", api.ErrForm},
		{"\x00\x00\x10\x01", nil, "\x00\x00\x10\x01", api.ErrBig},

		// Those behind it have a Kind.
		{"\x00\x00\x00\x05aS\x00\x00\x00\x04", []api.Msg{{Body: "a"}, s}, "", api.OK},
		{"\x00\x00\x00\x05aS\x00\x00\x00", []api.Msg{{Body: "a"}}, "S\x00\x00\x00", api.OK},
		{"\x00\x00\x00\x04\x00\x00\x00\x04", []api.Msg{{}}, "\x00\x00\x00\x04", api.OK},
		{"\x00\x00\x00\x04\x00\x00\x00\x00\x04", []api.Msg{{}}, "\x00\x00\x00\x00\x04", api.ErrKind},
		{"\x00\x00\x00\x04S\x00\x00\x00\x03", []api.Msg{{}}, "S\x00\x00\x00\x03", api.ErrForm},
	} {
		r := New(true)
		feeds(t, "first", r, c.s, c.want, c.bad)
		stands(t, "behind "+c.s, r, c.rest, c.bad)
	}
}

// P2.2
func TestFeedOfEachKind(t *testing.T) {
	for kind := range 256 {
		s := string([]byte{byte(kind)}) + "\x00\x00\x00\x05a"
		var want []api.Msg
		bad, rest := api.ErrKind, s
		if kind != 0 && rightKind(kind) {
			want, bad, rest = []api.Msg{{Kind: byte(kind), Body: "a"}}, api.OK, ""
		}
		r := New(false)
		feeds(t, "each kind", r, s, want, bad)
		stands(t, "each kind", r, rest, bad)
	}
}

// P2.2, P2.3: a message that is cut at each of its bytes waits, and is told with its last byte.
func TestFeedCutAtEachByte(t *testing.T) {
	for _, c := range []struct {
		first bool
		m     api.Msg
	}{
		{false, api.Msg{Kind: 'Q', Body: "select 1\x00"}},
		{false, api.Msg{Kind: 'S'}},
		{false, api.Msg{Kind: 'd', Body: longest}},
		{true, api.Msg{Body: "\x00\x03\x00\x00user\x00a\x00\x00"}},
		{true, api.Msg{}},
	} {
		s := Put(c.m)
		for at := range len(s) {
			r := New(c.first)
			feeds(t, "ahead of the cut", r, s[:at], nil, api.OK)
			stands(t, "at the cut", r, s[:at], api.OK)
			feeds(t, "nothing more", r, "", nil, api.OK)
			stands(t, "still at the cut", r, s[:at], api.OK)
			feeds(t, "behind the cut", r, s[at:]+"X", []api.Msg{c.m}, api.OK)
			stands(t, "behind all", r, "X", api.OK)
		}
	}
}

// P2.2, P2.3
func TestNothingIsFedBehindAnError(t *testing.T) {
	for _, c := range []struct {
		s   string
		bad api.Errno
	}{
		{"\x1f\x00\x00\x00\x04", api.ErrKind},
		{"Q\x00\x00\x00\x03", api.ErrForm},
		{"Q\x00\x00\x10\x01", api.ErrBig},
	} {
		for _, ahead := range []string{"", "S\x00\x00\x00\x04"} {
			r := New(false)
			fed(r, ahead+c.s[:2], c.s[2:]+"behind")
			for _, more := range []string{"", "S\x00\x00\x00\x04", "\x00", "Q\x00\x00\x00\x03", "Q\x00\x00\x10\x01", "\x1f\x00\x00\x00\x04"} {
				stands(t, "ahead of more", r, c.s+"behind", c.bad)
				feeds(t, "more", r, more, nil, c.bad)
				feeds(t, "more to a copy", r.Copy(), more, nil, c.bad)
			}
			stands(t, "behind more", r, c.s+"behind", c.bad)
		}
	}
}

// P2.3
func TestCopyStandsThere(t *testing.T) {
	for _, c := range []struct {
		first bool
		s     string
		rest  string
		bad   api.Errno
	}{
		{false, "", "", api.OK},
		{true, "", "", api.OK},
		{true, "\x00\x00\x00\x05", "\x00\x00\x00\x05", api.OK},
		{true, "\x00\x00\x00\x05aQ", "Q", api.OK},
		{false, "S\x00\x00\x00\x04Q\x00\x00\x00\x06h", "Q\x00\x00\x00\x06h", api.OK},
		{false, "S\x00\x00\x00\x04Q\x00\x00\x00\x02h", "Q\x00\x00\x00\x02h", api.ErrForm},
	} {
		r := New(c.first)
		r.Feed(c.s)
		d := r.Copy()
		if d == r {
			t.Errorf("%q: Copy is the same reader", c.s)
		}
		stands(t, "copy", d, c.rest, c.bad)
		stands(t, "copy of a copy", d.Copy(), c.rest, c.bad)
		stands(t, "reader", r, c.rest, c.bad)
	}
}

// P2.3: a copy knows whether the next message is a first one, and what is told of one doesn't move the other.
func TestCopyIsFirstAsTheReaderIs(t *testing.T) {
	r := New(true)
	c := r.Copy()
	feeds(t, "reader", r, "\x00\x00\x00\x05a", []api.Msg{{Body: "a"}}, api.OK)
	feeds(t, "copy", c, "\x00\x00\x00\x05b", []api.Msg{{Body: "b"}}, api.OK)
	d := r.Copy()
	feeds(t, "second of the reader", r, "S\x00\x00\x00\x04", []api.Msg{{Kind: 'S'}}, api.OK)
	feeds(t, "second of the copy", d, "H\x00\x00\x00\x04", []api.Msg{{Kind: 'H'}}, api.OK)
}

// P2.3
func TestCopyGoesItsOwnWay(t *testing.T) {
	for _, head := range []string{"", "S\x00\x00\x00\x04"} {
		for size := range 40 {
			waits := "Q\x00\x00\x00\x40" + longest[:size]
			r := New(false)
			r.Feed(head + waits)
			c := r.Copy()
			d := c.Copy()
			r.Feed("rr")
			c.Feed("ccc")
			d.Feed("d")
			stands(t, "reader", r, waits+"rr", api.OK)
			stands(t, "copy", c, waits+"ccc", api.OK)
			stands(t, "copy of the copy", d, waits+"d", api.OK)
			// The reader goes on once more behind a copy of where it stands now.
			e := r.Copy()
			e.Feed("e")
			r.Feed("r")
			stands(t, "reader again", r, waits+"rrr", api.OK)
			stands(t, "copy again", e, waits+"rre", api.OK)
		}
	}
}

// P2.3
func TestAnErrorOfACopyIsItsOwn(t *testing.T) {
	r := New(false)
	r.Feed("Q\x00\x00\x00")
	c := r.Copy()
	feeds(t, "copy", c, "\x03", nil, api.ErrForm)
	stands(t, "reader", r, "Q\x00\x00\x00", api.OK)
	feeds(t, "reader", r, "\x05a", []api.Msg{{Kind: 'Q', Body: "a"}}, api.OK)
	stands(t, "copy", c, "Q\x00\x00\x00\x03", api.ErrForm)
}

// R4: what is done with a list that was answered doesn't move the reader.
func TestFedListsAreNew(t *testing.T) {
	r := New(false)
	l, _ := r.Feed("S\x00\x00\x00\x04H\x00\x00\x00\x04Q")
	l[0], l[1] = api.Msg{Kind: 'x'}, api.Msg{Kind: 'y'}
	for i := range l[:cap(l)] {
		l[:cap(l)][i] = api.Msg{Kind: 'z'}
	}
	m, _ := r.Feed("\x00\x00\x00\x04S\x00\x00\x00\x04")
	if !slices.Equal(m, []api.Msg{{Kind: 'Q'}, {Kind: 'S'}}) || l[0].Kind != 'z' || l[1].Kind != 'z' {
		t.Errorf("lists share memory: %q, %q", l, m)
	}
}

// stream is a text of messages, and what a reader is to make of it.
type stream struct {
	first bool
	s     string
	want  []api.Msg
	rest  string
	bad   api.Errno
}

// streams are texts that are whole, cut off, and wrong.
func streams() []stream {
	start := api.Msg{Body: "\x00\x03\x00\x00user\x00a\x00\x00"}
	q, s := api.Msg{Kind: 'Q', Body: "select 1\x00"}, api.Msg{Kind: 'S'}
	return []stream{
		{false, "", nil, "", api.OK},
		{true, Put(start) + Put(q) + Put(s), []api.Msg{start, q, s}, "", api.OK},
		{true, Put(start) + Put(s) + "Q\x00\x00", []api.Msg{start, s}, "Q\x00\x00", api.OK},
		{false, Put(q) + Put(s) + Put(q) + "P\x00\x00\x10\x00abc", []api.Msg{q, s, q}, "P\x00\x00\x10\x00abc", api.OK},
		{false, Put(q) + "\x20\x00\x00\x00\x04", []api.Msg{q}, "\x20\x00\x00\x00\x04", api.ErrKind},
		{false, Put(s) + Put(q) + "Q\x00\x00\x00\x03", []api.Msg{s, q}, "Q\x00\x00\x00\x03", api.ErrForm},
		{true, Put(start) + Put(q) + "Q\x00\x00\x10\x01", []api.Msg{start, q}, "Q\x00\x00\x10\x01", api.ErrBig},
		{true, "\x00\x00\x00\x00", nil, "\x00\x00\x00\x00", api.ErrForm},
	}
}

// P2.4: cut in two, in three, and in pieces of one size each.
func TestPiecesMakeNoDifference(t *testing.T) {
	for _, c := range streams() {
		check := func(pieces ...string) {
			t.Helper()
			r := New(c.first)
			l, err := fed(r, pieces...)
			if !slices.Equal(l, c.want) || err != c.bad {
				t.Errorf("Feed(%q) = %q, %d, want %q, %d", pieces, l, err, c.want, c.bad)
			}
			stands(t, strings.Join(pieces, "|"), r, c.rest, c.bad)
		}
		check(c.s)
		for a := range len(c.s) + 1 {
			check(c.s[:a], c.s[a:])
			check(c.s[:a], "", c.s[a:], "")
			for b := a; b <= len(c.s); b++ {
				check(c.s[:a], c.s[a:b], c.s[b:])
			}
		}
		for size := 1; size <= len(c.s); size++ {
			var pieces []string
			for at := 0; at < len(c.s); at += size {
				pieces = append(pieces, c.s[at:min(at+size, len(c.s))])
			}
			check(pieces...)
		}
	}
}

// P2.4
func TestMessagesInAnyPiecesAreTold(t *testing.T) {
	var want []api.Msg
	s := ""
	for i := range 300 {
		m := api.Msg{Kind: byte(33 + i%94), Body: longest[:i*i%4093]}
		want = append(want, m)
		s += Put(m)
	}
	for _, size := range []int{7, 1000, 4095, 4096, 4097, 4098, 65536, len(s)} {
		r := New(false)
		var l []api.Msg
		for at := 0; at < len(s); at += size {
			more, _ := r.Feed(s[at:min(at+size, len(s))])
			l = append(l, more...)
		}
		if !slices.Equal(l, want) {
			t.Errorf("pieces of %d bytes: other messages", size)
		}
		stands(t, "all", r, "", api.OK)
	}
}

// P2.4
func TestWhatIsPutIsRead(t *testing.T) {
	for kind := range 256 {
		for _, body := range []string{"", "\x00", "a", "ab\x00\xff\x80", "Q\x00\x00\x00\x04", longest[1:], longest} {
			m := api.Msg{Kind: byte(kind), Body: body}
			if rightKind(kind) {
				r := New(kind == 0)
				feeds(t, "put", r, Put(m)+"Q\x00", []api.Msg{m}, api.OK)
				stands(t, "put", r, "Q\x00", api.OK)
			}
		}
	}
}

// The sentence ahead of the promises, and R1.
func TestReadersThatNewDidNotGive(t *testing.T) {
	made := New(false)
	made.Feed("S\x00")
	taken := *made
	for name, r := range map[string]*Reader{"nil": nil, "zero": {}, "new": new(Reader), "taken": &taken} {
		for _, s := range []string{"", "S\x00\x00\x00\x04", "\x20\x00\x00\x00\x04"} {
			feeds(t, name, r, s, nil, api.ErrNil)
			stands(t, name, r, "", api.ErrNil)
			if c := r.Copy(); c != nil {
				t.Errorf("%s: Copy is not nil", name)
			}
		}
	}
	stands(t, "made", made, "S\x00", api.OK)
	feeds(t, "made", made, "\x00\x00\x04", []api.Msg{{Kind: 'S'}}, api.OK)
}
