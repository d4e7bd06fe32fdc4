package back

import (
	"reflect"
	"slices"
	"strings"
	"testing"

	"pontoon/api"
	"pontoon/frame"
)

const (
	low  = -1 << 31 // the least number of four bytes
	high = 1<<31 - 1
)

// known is all kinds.
const known = "RKZCSTDEN123nIs"

// tail is what stands behind a column's name.
const tail = "\x00\x00\x00\x00" + "\x00\x00" + "\x00\x00\x00\x19" + "\xff\xff" + "\xff\xff\xff\xff" + "\x00\x00"

// told is something that is told, and its message's body.
type told struct {
	tell api.Tell
	body string
}

// xs is a text of so many bytes.
func xs(n int) string {
	return strings.Repeat("x", n)
}

// repeated is a text n times, as a list.
func repeated(s string, n int) []string {
	return slices.Repeat([]string{s}, n)
}

// rightOnes is what can be told, with ordinary inputs of each kind, and edges.
func rightOnes() []told {
	var l []told
	l = append(l, rightNumbersAndTexts()...)
	l = append(l, rightColumns()...)
	l = append(l, rightRows()...)
	l = append(l, rightFields('E')...)
	l = append(l, rightFields('N')...)
	for _, kind := range []byte("123nIs") {
		l = append(l, told{api.Tell{Kind: kind}, ""})
	}
	return l
}

func rightNumbersAndTexts() []told {
	return []told{
		{api.Tell{Kind: 'R'}, "\x00\x00\x00\x00"},
		{api.Tell{Kind: 'R', N: 3}, "\x00\x00\x00\x03"},
		{api.Tell{Kind: 'K'}, "\x00\x00\x00\x00\x00\x00\x00\x00"},
		{api.Tell{Kind: 'K', N: 258, M: 66051}, "\x00\x00\x01\x02\x00\x01\x02\x03"},
		{api.Tell{Kind: 'K', N: -1, M: 1}, "\xff\xff\xff\xff\x00\x00\x00\x01"},
		{api.Tell{Kind: 'K', N: low, M: high}, "\x80\x00\x00\x00\x7f\xff\xff\xff"},
		{api.Tell{Kind: 'K', N: high, M: low}, "\x7f\xff\xff\xff\x80\x00\x00\x00"},
		{api.Tell{Kind: 'Z', Status: 'I'}, "I"},
		{api.Tell{Kind: 'Z', Status: 'T'}, "T"},
		{api.Tell{Kind: 'Z', Status: 'E'}, "E"},
		{api.Tell{Kind: 'C'}, "\x00"},
		{api.Tell{Kind: 'C', Text: "SELECT 1"}, "SELECT 1\x00"},
		{api.Tell{Kind: 'C', Text: "\xff\x01"}, "\xff\x01\x00"},
		{api.Tell{Kind: 'C', Text: xs(4091)}, xs(4091) + "\x00"},
		{api.Tell{Kind: 'S', Vals: []string{""}}, "\x00\x00"},
		{api.Tell{Kind: 'S', Text: "a", Vals: []string{"b"}}, "a\x00b\x00"},
		{api.Tell{Kind: 'S', Text: "a", Vals: []string{""}}, "a\x00\x00"},
		{api.Tell{Kind: 'S', Vals: []string{"b"}}, "\x00b\x00"},
		{api.Tell{Kind: 'S', Text: xs(2045), Vals: []string{xs(2045)}}, xs(2045) + "\x00" + xs(2045) + "\x00"},
	}
}

func rightColumns() []told {
	return []told{
		{api.Tell{Kind: 'T'}, "\x00\x00"},
		{api.Tell{Kind: 'T', Keys: []string{"k"}}, "\x00\x01k\x00" + tail},
		{api.Tell{Kind: 'T', Keys: []string{"k", "v"}}, "\x00\x02k\x00" + tail + "v\x00" + tail},
		{api.Tell{Kind: 'T', Keys: []string{"", "a", "", "a"}}, "\x00\x04\x00" + tail + "a\x00" + tail + "\x00" + tail + "a\x00" + tail},
		{api.Tell{Kind: 'T', Keys: []string{"\xff\x19"}}, "\x00\x01\xff\x19\x00" + tail},
		{api.Tell{Kind: 'T', Keys: repeated("k", 100)}, "\x00\x64" + strings.Repeat("k\x00"+tail, 100)},
		{api.Tell{Kind: 'T', Keys: repeated(xs(21), 100)}, "\x00\x64" + strings.Repeat(xs(21)+"\x00"+tail, 100)},
		{api.Tell{Kind: 'T', Keys: []string{xs(4071)}}, "\x00\x01" + xs(4071) + "\x00" + tail},
	}
}

func rightRows() []told {
	return []told{
		{api.Tell{Kind: 'D'}, "\x00\x00"},
		{api.Tell{Kind: 'D', Vals: []string{"3", "-15"}, Null: []bool{false, false}}, "\x00\x02\x00\x00\x00\x013\x00\x00\x00\x03-15"},
		{api.Tell{Kind: 'D', Vals: []string{""}, Null: []bool{false}}, "\x00\x01\x00\x00\x00\x00"},
		{api.Tell{Kind: 'D', Vals: []string{""}, Null: []bool{true}}, "\x00\x01\xff\xff\xff\xff"},
		{api.Tell{Kind: 'D', Vals: []string{"", "", "ab"}, Null: []bool{true, false, false}}, "\x00\x03\xff\xff\xff\xff\x00\x00\x00\x00\x00\x00\x00\x02ab"},
		{api.Tell{Kind: 'D', Vals: []string{"\x00", "a\x00b", "\xff"}, Null: []bool{false, false, false}}, "\x00\x03\x00\x00\x00\x01\x00\x00\x00\x00\x03a\x00b\x00\x00\x00\x01\xff"},
		{api.Tell{Kind: 'D', Vals: repeated("", 100), Null: make([]bool, 100)}, "\x00\x64" + strings.Repeat("\x00", 400)},
		{api.Tell{Kind: 'D', Vals: repeated("", 100), Null: slices.Repeat([]bool{true}, 100)}, "\x00\x64" + strings.Repeat("\xff", 400)},
		{api.Tell{Kind: 'D', Vals: repeated(xs(36), 100), Null: make([]bool, 100)}, "\x00\x64" + strings.Repeat("\x00\x00\x00\x24"+xs(36), 100)},
		{api.Tell{Kind: 'D', Vals: []string{xs(258)}, Null: []bool{false}}, "\x00\x01\x00\x00\x01\x02" + xs(258)},
		{api.Tell{Kind: 'D', Vals: []string{xs(4086)}, Null: []bool{false}}, "\x00\x01\x00\x00\x0f\xf6" + xs(4086)},
	}
}

func rightFields(kind byte) []told {
	return []told{
		{api.Tell{Kind: kind}, "\x00"},
		{api.Tell{Kind: kind, Keys: []string{"M"}, Vals: []string{""}}, "M\x00\x00"},
		{api.Tell{Kind: kind, Keys: []string{"S", "C", "M"}, Vals: []string{"ERROR", "13", "error 13"}}, "SERROR\x00C13\x00Merror 13\x00\x00"},
		{api.Tell{Kind: kind, Keys: []string{"a", "a", "\x01", "\xff"}, Vals: []string{"", "b", "", "\xff"}}, "a\x00ab\x00\x01\x00\xff\xff\x00\x00"},
		{api.Tell{Kind: kind, Keys: repeated("k", 100), Vals: repeated("", 100)}, strings.Repeat("k\x00", 100) + "\x00"},
		{api.Tell{Kind: kind, Keys: repeated("k", 100), Vals: repeated(xs(38), 100)}, strings.Repeat("k"+xs(38)+"\x00", 100) + "\x00"},
		{api.Tell{Kind: kind, Keys: []string{"M"}, Vals: []string{xs(4089)}}, "M" + xs(4089) + "\x00\x00"},
	}
}

// alike tells whether two tells are the same, a nil list as an empty one.
func alike(a, b api.Tell) bool {
	return reflect.DeepEqual(withLists(a), withLists(b))
}

// withLists is a tell whose lists that are empty are nil.
func withLists(t api.Tell) api.Tell {
	t.Keys, t.Vals, t.Null = orNil(t.Keys), orNil(t.Vals), orNil(t.Null)
	return t
}

func orNil[T any](l []T) []T {
	if len(l) == 0 {
		return nil
	}
	return l
}

// refuses checks that something can't be told.
func refuses(t *testing.T, what string, u api.Tell) {
	t.Helper()
	if Right(u) {
		t.Errorf("%s: Right(%+v)", what, u)
	}
	if m, err := Encode(u); m != (api.Msg{}) || err != api.ErrForm {
		t.Errorf("%s: Encode(%+v) = %q, %d", what, u, m, err)
	}
	if s, err := Bytes([]api.Tell{{Kind: '1'}, u, {Kind: '2'}}); s != "" || err != api.ErrForm {
		t.Errorf("%s: Bytes with %+v = %q, %d", what, u, s, err)
	}
}

// fails checks that a message tells nothing.
func fails(t *testing.T, m api.Msg, want api.Errno) {
	t.Helper()
	if u, err := Decode(m); !reflect.DeepEqual(u, api.Tell{}) || err != want {
		t.Errorf("Decode(%q, %q) = %+v, %d, want %d", m.Kind, m.Body, u, err, want)
	}
}

// P20.1
func TestDecode(t *testing.T) {
	for _, c := range rightOnes() {
		m := api.Msg{Kind: c.tell.Kind, Body: c.body}
		if u, err := Decode(m); !alike(u, c.tell) || err != api.OK {
			t.Errorf("Decode(%q, %q) = %+v, %d, want %+v", m.Kind, m.Body, u, err, c.tell)
		}
	}
}

// P20.1
func TestDecodeOtherKinds(t *testing.T) {
	for kind := range 256 {
		if strings.IndexByte(known, byte(kind)) >= 0 {
			continue
		}
		// The Kind is named ahead of the Body, whatever that is.
		for _, body := range []string{"", "I", "a\x00", "\x00\x00", "\x00\x00\x00\x00", xs(5000)} {
			fails(t, api.Msg{Kind: byte(kind), Body: body}, api.ErrKind)
		}
	}
}

// P20.1
func TestDecodeOneByteMoreOrLess(t *testing.T) {
	for _, c := range rightOnes() {
		for _, more := range []string{"\x00", "\x01", "I", "x", "\xff"} {
			fails(t, api.Msg{Kind: c.tell.Kind, Body: c.body + more}, api.ErrForm)
		}
		// No body that is right begins with another one of its Kind.
		for n := range min(len(c.body), 600) {
			fails(t, api.Msg{Kind: c.tell.Kind, Body: c.body[:n]}, api.ErrForm)
			fails(t, api.Msg{Kind: c.tell.Kind, Body: c.body[:len(c.body)-1-n]}, api.ErrForm)
		}
	}
}

// P20.1
func TestDecodeOneByte(t *testing.T) {
	for _, kind := range []byte(known) {
		for b := range 256 {
			body := string([]byte{byte(b)})
			right := kind == 'Z' && strings.Contains("ITE", body) || strings.IndexByte("CEN", kind) >= 0 && b == 0
			u, err := Decode(api.Msg{Kind: kind, Body: body})
			if (err == api.OK) != right || !right && (err != api.ErrForm || !reflect.DeepEqual(u, api.Tell{})) {
				t.Errorf("Decode(%q, %q) = %+v, %d", kind, body, u, err)
			}
			if right && kind == 'Z' && u.Status != byte(b) {
				t.Errorf("Decode(%q, %q) = %+v", kind, body, u)
			}
		}
	}
}

// P20.1: each byte behind a column's name is as it must be.
func TestDecodeColumnsOfAnotherSort(t *testing.T) {
	for at := range len(tail) {
		for _, b := range []byte{0, 1, 0x18, 0x19, 0x1a, 127, 128, 254, 255} {
			if b == tail[at] {
				continue
			}
			wrong := []byte(tail)
			wrong[at] = b
			fails(t, api.Msg{Kind: 'T', Body: "\x00\x01k\x00" + string(wrong)}, api.ErrForm)
			fails(t, api.Msg{Kind: 'T', Body: "\x00\x02k\x00" + string(wrong) + "v\x00" + tail}, api.ErrForm)
			fails(t, api.Msg{Kind: 'T', Body: "\x00\x02k\x00" + tail + "v\x00" + string(wrong)}, api.ErrForm)
		}
	}
}

// P20.1
func TestDecodeWrong(t *testing.T) {
	for _, m := range []api.Msg{
		// Another number than 0 and 3.
		{Kind: 'R', Body: "\x00\x00\x00\x01"},
		{Kind: 'R', Body: "\x00\x00\x00\x02"},
		{Kind: 'R', Body: "\x00\x00\x00\x04"},
		{Kind: 'R', Body: "\xff\xff\xff\xff"},
		{Kind: 'R', Body: "\xff\xff\xff\xfd"},
		{Kind: 'R', Body: "\x03\x00\x00\x00"},
		{Kind: 'R', Body: "\x00\x00\x01\x03"},
		{Kind: 'R', Body: "\x80\x00\x00\x00"},
		{Kind: 'R', Body: "\x00\x00\x00\x00\x00\x00\x00\x00"},
		// Another status.
		{Kind: 'Z', Body: "X"},
		{Kind: 'Z', Body: "i"},
		{Kind: 'Z', Body: "IT"},
		{Kind: 'Z', Body: "II"},
		{Kind: 'Z', Body: "ITE"},
		{Kind: 'Z', Body: "I\x00"},
		// Texts without ends, and too many or too few of them.
		{Kind: 'C', Body: "a"},
		{Kind: 'C', Body: "a\x00b"},
		{Kind: 'C', Body: "a\x00b\x00"},
		{Kind: 'C', Body: "\x00\x00"},
		{Kind: 'S', Body: "a\x00"},
		{Kind: 'S', Body: "a\x00b"},
		{Kind: 'S', Body: "\x00"},
		{Kind: 'S', Body: "a\x00b\x00c\x00"},
		{Kind: 'S', Body: "a\x00b\x00\x00"},
		// How many Keys there are.
		{Kind: 'T', Body: "\xff\xff"},
		{Kind: 'T', Body: "\x80\x00"},
		{Kind: 'T', Body: "\x00\x01"},
		{Kind: 'T', Body: "\x01\x00k\x00" + tail},
		{Kind: 'T', Body: "\x00\x00k\x00" + tail},
		{Kind: 'T', Body: "\x00\x01k\x00" + tail + "v\x00" + tail},
		{Kind: 'T', Body: "\x00\x02k\x00" + tail},
		{Kind: 'T', Body: "\x00\x65" + strings.Repeat("k\x00"+tail, 101)},
		{Kind: 'T', Body: "\x00\x65" + strings.Repeat("\x00"+tail, 101)},
		{Kind: 'T', Body: "\x00\xc8" + strings.Repeat("\x00"+tail, 200)},
		{Kind: 'T', Body: "\x00\x01k" + tail},
		{Kind: 'T', Body: "\x00\x01k"},
		// How many Vals there are, and how long each is.
		{Kind: 'D', Body: "\xff\xff"},
		{Kind: 'D', Body: "\x80\x00"},
		{Kind: 'D', Body: "\x00\x01"},
		{Kind: 'D', Body: "\x00\x00\x00\x00\x00\x00"},
		{Kind: 'D', Body: "\x00\x65" + strings.Repeat("\x00", 404)},
		{Kind: 'D', Body: "\x00\x65" + strings.Repeat("\xff", 404)},
		{Kind: 'D', Body: "\x03\xe8" + strings.Repeat("\x00", 4000)},
		{Kind: 'D', Body: "\x00\x02\x00\x00\x00\x01a"},
		{Kind: 'D', Body: "\x00\x01\xff\xff\xff\xfe"},
		{Kind: 'D', Body: "\x00\x02\xff\xff\xff\xfe\x00\x00\x00\x00"},
		{Kind: 'D', Body: "\x00\x01\x80\x00\x00\x00"},
		{Kind: 'D', Body: "\x00\x01\x00\x00\x00\x03ab"},
		{Kind: 'D', Body: "\x00\x01\x7f\xff\xff\xffab"},
		{Kind: 'D', Body: "\x00\x01\xff\xff\xff\xffa"},
		{Kind: 'D', Body: "\x00\x02\x00\x00\x00\x05a\x00\x00\x00\x00"},
		// Something where nothing is said.
		{Kind: '1', Body: "x"},
		{Kind: '2', Body: "\x00"},
		{Kind: '3', Body: "\x00\x00\x00\x04"},
		{Kind: 'n', Body: "I"},
		{Kind: 'I', Body: "\xff"},
		{Kind: 's', Body: xs(4092)},
		// Messages that are too long.
		{Kind: 'C', Body: xs(4092) + "\x00"},
		{Kind: 'C', Body: xs(9000) + "\x00"},
		{Kind: 'S', Body: xs(2046) + "\x00" + xs(2045) + "\x00"},
		{Kind: 'T', Body: "\x00\x01" + xs(4072) + "\x00" + tail},
		{Kind: 'D', Body: "\x00\x01\x00\x00\x0f\xf7" + xs(4087)},
	} {
		fails(t, m, api.ErrForm)
	}
}

// P20.1
func TestDecodeWrongFields(t *testing.T) {
	for _, kind := range []byte("EN") {
		for _, body := range []string{
			"",
			"M",
			"Mx",
			"Mx\x00",
			"Mx\x00\x00\x00",
			"Mx\x00\x00Sy\x00\x00",
			"\x00Mx\x00\x00",
			"\x00x\x00\x00",
			"Mx\x00S",
			"Mx\x00Sy",
			"Mx\x00Sy\x00",
			strings.Repeat("k\x00", 101) + "\x00",
			strings.Repeat("k\x00", 2045) + "\x00",
			strings.Repeat("k\x00", 2046),
			"M" + xs(4090) + "\x00\x00",
		} {
			fails(t, api.Msg{Kind: kind, Body: body}, api.ErrForm)
		}
	}
}

// P20.1: what is decoded is new memory.
func TestDecodeListsOfItsOwn(t *testing.T) {
	for _, c := range rightOnes() {
		m := api.Msg{Kind: c.tell.Kind, Body: c.body}
		a, _ := Decode(m)
		b, _ := Decode(m)
		spoil(a.Keys)
		if !slices.Equal(a.Vals, b.Vals) || !slices.Equal(a.Null, b.Null) {
			t.Errorf("%+v shares room with its Keys", b)
		}
		spoil(a.Vals)
		for i := range a.Null {
			a.Null[i] = !a.Null[i]
		}
		if !alike(b, c.tell) {
			t.Errorf("%+v shares room with another answer", b)
		}
	}
}

// spoil writes into a list, and into the room behind it.
func spoil(l []string) {
	for i := range l[:cap(l)] {
		l[:cap(l)][i] = "spoilt"
	}
}

// P20.2
func TestEncode(t *testing.T) {
	for _, c := range rightOnes() {
		if !Right(c.tell) {
			t.Errorf("not Right(%+v)", c.tell)
		}
		want := api.Msg{Kind: c.tell.Kind, Body: c.body}
		if m, err := Encode(c.tell); m != want || err != api.OK {
			t.Errorf("Encode(%+v) = %q, %d, want %q", c.tell, m, err, want)
		}
	}
}

// P20.2
func TestEncodeListsThatAreEmpty(t *testing.T) {
	for _, c := range rightOnes() {
		u := withLists(c.tell)
		if u.Keys == nil {
			u.Keys = make([]string, 0, 9)
		}
		if u.Vals == nil {
			u.Vals = []string{}
		}
		if u.Null == nil {
			u.Null = []bool{}
		}
		if m, err := Encode(u); m != (api.Msg{Kind: c.tell.Kind, Body: c.body}) || err != api.OK || !Right(u) {
			t.Errorf("Encode(%+v) = %q, %d", u, m, err)
		}
	}
}

// P20.2
func TestEncodeOtherKinds(t *testing.T) {
	for kind := range 256 {
		if strings.IndexByte(known, byte(kind)) < 0 {
			refuses(t, "Kind", api.Tell{Kind: byte(kind)})
			refuses(t, "Kind", api.Tell{Kind: byte(kind), Text: "a"})
			refuses(t, "Kind", api.Tell{Kind: byte(kind), Status: 'I'})
		}
	}
}

// P20.2
func TestEncodeAnyStatus(t *testing.T) {
	for b := range 256 {
		u := api.Tell{Kind: 'Z', Status: byte(b)}
		if want := strings.IndexByte("ITE", byte(b)) >= 0; Right(u) != want {
			t.Errorf("Right(%+v), want %t", u, want)
		}
	}
}

// P20.2
func TestEncodeWrong(t *testing.T) {
	for _, c := range []struct {
		what string
		tell api.Tell
	}{
		{"R with 1", api.Tell{Kind: 'R', N: 1}},
		{"R with 2", api.Tell{Kind: 'R', N: 2}},
		{"R with 4", api.Tell{Kind: 'R', N: 4}},
		{"R below 0", api.Tell{Kind: 'R', N: -3}},
		{"R that would be 0", api.Tell{Kind: 'R', N: 1 << 32}},
		{"R that would be 3", api.Tell{Kind: 'R', N: 3 - 1<<32}},
		{"R with 3 in M", api.Tell{Kind: 'R', M: 3}},
		{"N above", api.Tell{Kind: 'K', N: high + 1}},
		{"N below", api.Tell{Kind: 'K', N: low - 1}},
		{"N far above", api.Tell{Kind: 'K', N: 1<<32 + 5}},
		{"N far below", api.Tell{Kind: 'K', N: -1 << 63}},
		{"M above", api.Tell{Kind: 'K', M: high + 1}},
		{"M below", api.Tell{Kind: 'K', M: low - 1}},
		{"M far above", api.Tell{Kind: 'K', M: 1<<63 - 1}},
		{"no status", api.Tell{Kind: 'Z'}},

		{"a byte 0 as Text", api.Tell{Kind: 'C', Text: "\x00"}},
		{"a byte 0 behind Text", api.Tell{Kind: 'C', Text: "a\x00"}},
		{"a byte 0 in Text", api.Tell{Kind: 'C', Text: "a\x00b"}},
		{"C that is too long", api.Tell{Kind: 'C', Text: xs(4092)}},
		{"C that is far too long", api.Tell{Kind: 'C', Text: xs(9000)}},
		{"C that would be short", api.Tell{Kind: 'C', Text: "a\x00" + xs(9000)}},

		{"S without Vals", api.Tell{Kind: 'S', Text: "a"}},
		{"S of nothing", api.Tell{Kind: 'S'}},
		{"S with two Vals", api.Tell{Kind: 'S', Text: "a", Vals: []string{"b", "c"}}},
		{"S with a Val that is empty, too many", api.Tell{Kind: 'S', Text: "a", Vals: []string{"b", ""}}},
		{"S with no Text, and two Vals", api.Tell{Kind: 'S', Vals: []string{"b", "c"}}},
		{"a byte 0 in Text of S", api.Tell{Kind: 'S', Text: "a\x00b", Vals: []string{"c"}}},
		{"a byte 0 in Text of S in place of a Val", api.Tell{Kind: 'S', Text: "a\x00b"}},
		{"a byte 0 in Vals of S", api.Tell{Kind: 'S', Text: "a", Vals: []string{"b\x00"}}},
		{"S that is too long", api.Tell{Kind: 'S', Text: xs(2046), Vals: []string{xs(2045)}}},

		{"101 Keys of T", api.Tell{Kind: 'T', Keys: repeated("", 101)}},
		{"as many Keys of T as two bytes tell", api.Tell{Kind: 'T', Keys: repeated("", 65536)}},
		{"a byte 0 in Keys of T", api.Tell{Kind: 'T', Keys: []string{"k", "v\x00"}}},
		{"bytes 0 that would be a column", api.Tell{Kind: 'T', Keys: []string{"k\x00" + tail + "v"}}},
		{"T with Vals in place of Keys", api.Tell{Kind: 'T', Vals: []string{"k"}}},
		{"T that is too long", api.Tell{Kind: 'T', Keys: []string{xs(4072)}}},
		{"T that is too long with many", api.Tell{Kind: 'T', Keys: repeated(xs(22), 100)}},

		{"Vals alone", api.Tell{Kind: 'D', Vals: []string{"a"}}},
		{"Null alone", api.Tell{Kind: 'D', Null: []bool{false}}},
		{"Null alone, none", api.Tell{Kind: 'D', Null: []bool{true}}},
		{"fewer Vals", api.Tell{Kind: 'D', Vals: []string{"a"}, Null: []bool{false, false}}},
		{"fewer Null", api.Tell{Kind: 'D', Vals: []string{"a", ""}, Null: []bool{false}}},
		{"a Val that is none, and has bytes", api.Tell{Kind: 'D', Vals: []string{"a"}, Null: []bool{true}}},
		{"a Val that is none, and has a byte 0", api.Tell{Kind: 'D', Vals: []string{"", "\x00"}, Null: []bool{true, true}}},
		{"101 Vals", api.Tell{Kind: 'D', Vals: repeated("", 101), Null: make([]bool, 101)}},
		{"100 Vals, 101 Null", api.Tell{Kind: 'D', Vals: repeated("", 100), Null: make([]bool, 101)}},
		{"as many Vals as two bytes tell", api.Tell{Kind: 'D', Vals: repeated("", 65536), Null: make([]bool, 65536)}},
		{"D with Keys", api.Tell{Kind: 'D', Keys: []string{"k"}, Vals: []string{"a"}, Null: []bool{false}}},
		{"D that is too long", api.Tell{Kind: 'D', Vals: []string{xs(4087)}, Null: []bool{false}}},
		{"D that is too long with many", api.Tell{Kind: 'D', Vals: repeated(xs(37), 100), Null: make([]bool, 100)}},
	} {
		refuses(t, c.what, c.tell)
	}
}

// P20.2
func TestEncodeWrongFields(t *testing.T) {
	for _, kind := range []byte("EN") {
		for _, c := range []struct {
			what       string
			keys, vals []string
		}{
			{"Keys alone", []string{"M"}, nil},
			{"Vals alone", nil, []string{"x"}},
			{"a Val alone that is empty", nil, []string{""}},
			{"fewer Keys", []string{"M"}, []string{"x", "y"}},
			{"fewer Vals", []string{"M", "S"}, []string{"x"}},
			{"a Key of two bytes", []string{"MM"}, []string{"x"}},
			{"a Key of two bytes, behind another", []string{"S", "MM"}, []string{"x", "y"}},
			{"a Key of a letter of two bytes", []string{"\xc3\xa4"}, []string{"x"}},
			{"a Key that is empty", []string{""}, []string{"x"}},
			{"a Key that is empty, its Val too", []string{""}, []string{""}},
			{"a Key that is empty, behind another", []string{"M", ""}, []string{"x", ""}},
			{"a Key that is a byte 0", []string{"\x00"}, []string{"x"}},
			{"a Key that is a byte 0, its Val empty", []string{"M", "\x00"}, []string{"x", ""}},
			{"a Key with a byte 0", []string{"M\x00"}, []string{""}},
			{"a byte 0 in a Val", []string{"M"}, []string{"x\x00"}},
			{"bytes 0 that would be a field", []string{"M"}, []string{"x\x00Sy"}},
			{"101 Keys", repeated("k", 101), repeated("", 101)},
			{"100 Keys, 101 Vals", repeated("k", 100), repeated("", 101)},
			{"101 Keys, 100 Vals", repeated("k", 101), repeated("", 100)},
			{"too long", []string{"M"}, []string{xs(4090)}},
			{"too long with many", repeated("k", 100), repeated(xs(39), 100)},
		} {
			refuses(t, c.what, api.Tell{Kind: kind, Keys: c.keys, Vals: c.vals})
		}
		refuses(t, "Null", api.Tell{Kind: kind, Keys: []string{"M"}, Vals: []string{"x"}, Null: []bool{false}})
	}
}

// fields is one field at a time, of which a Kind may have, or not have, something.
func fields() map[string]func(*api.Tell) {
	return map[string]func(*api.Tell){
		"Status": func(u *api.Tell) { u.Status = 'T' },
		"Text":   func(u *api.Tell) { u.Text = "s" },
		"Keys":   func(u *api.Tell) { u.Keys = []string{"k"} },
		"Vals":   func(u *api.Tell) { u.Vals = []string{"v"} },
		"Null":   func(u *api.Tell) { u.Null = []bool{false} },
		"Pairs":  func(u *api.Tell) { u.Keys, u.Vals = []string{"k"}, []string{"v"} },
		"Values": func(u *api.Tell) { u.Vals, u.Null = []string{"v"}, []bool{false} },
		"None":   func(u *api.Tell) { u.Vals, u.Null = []string{""}, []bool{true} },
		"N":      func(u *api.Tell) { u.N = 3 },
		"M":      func(u *api.Tell) { u.M = 3 },
	}
}

// P20.2
func TestEncodeFieldsOfEachKind(t *testing.T) {
	for _, c := range []struct {
		tell api.Tell
		has  string
	}{
		{api.Tell{Kind: 'R'}, "N"},
		{api.Tell{Kind: 'K'}, "N M"},
		{api.Tell{Kind: 'Z', Status: 'I'}, "Status"},
		{api.Tell{Kind: 'C'}, "Text"},
		{api.Tell{Kind: 'S', Vals: []string{"a"}}, "Text Vals"},
		{api.Tell{Kind: 'T'}, "Keys"},
		{api.Tell{Kind: 'D'}, "Values None"},
		{api.Tell{Kind: 'E'}, "Pairs"},
		{api.Tell{Kind: 'N'}, "Pairs"},
		{api.Tell{Kind: '1'}, ""},
		{api.Tell{Kind: '2'}, ""},
		{api.Tell{Kind: '3'}, ""},
		{api.Tell{Kind: 'n'}, ""},
		{api.Tell{Kind: 'I'}, ""},
		{api.Tell{Kind: 's'}, ""},
	} {
		for name, set := range fields() {
			u := c.tell
			set(&u)
			want := slices.Contains(strings.Fields(c.has), name)
			if _, err := Encode(u); Right(u) != want || (err == api.OK) != want {
				t.Errorf("%+v with %s: %t, %d, want %t", c.tell, name, Right(u), err, want)
			}
		}
	}
}

// P20.2: what can't be a message is told at once, however long it is.
func TestEncodeFarTooLong(t *testing.T) {
	long := xs(1 << 24)
	refuses := func(u api.Tell) {
		t.Helper()
		if m, err := Encode(u); m != (api.Msg{}) || err != api.ErrForm || Right(u) {
			t.Errorf("Kind %q: %d bytes, %d", u.Kind, len(m.Body), err)
		}
	}
	longOnes, manyEmpty, many, falses := repeated(long, 100), repeated("", 1<<20), repeated("k", 1<<20), make([]bool, 1<<20)
	for _, kind := range []byte(known) {
		refuses(api.Tell{Kind: kind, Text: long})
		refuses(api.Tell{Kind: kind, Keys: longOnes, Vals: longOnes})
		refuses(api.Tell{Kind: kind, Vals: longOnes, Null: falses[:100]})
		refuses(api.Tell{Kind: kind, Keys: many, Vals: many})
		refuses(api.Tell{Kind: kind, Keys: manyEmpty})
		refuses(api.Tell{Kind: kind, Vals: manyEmpty, Null: falses})
		refuses(api.Tell{Kind: kind, Null: falses})
	}
}

// P20.2
func TestEncodeLeavesItsLists(t *testing.T) {
	for _, c := range rightOnes() {
		u := c.tell
		u.Keys, u.Vals, u.Null = slices.Clone(u.Keys), slices.Clone(u.Vals), slices.Clone(u.Null)
		if _, err := Encode(u); err != api.OK || !Right(u) {
			t.Errorf("%+v: %d", u, err)
		}
		if _, err := Bytes([]api.Tell{u, u}); err != api.OK || !alike(u, c.tell) {
			t.Errorf("%+v became %+v, %d", c.tell, u, err)
		}
	}
}

// P20.2: numbers are put one behind the other, however many there are.
func TestPut(t *testing.T) {
	for _, c := range []struct {
		l    []number
		want string
	}{
		{nil, ""},
		{[]number{two(258)}, "\x01\x02"},
		{[]number{four(-2)}, "\xff\xff\xff\xfe"},
		{[]number{two(-1), four(1), two(3), four(16909060)}, "\xff\xff\x00\x00\x00\x01\x00\x03\x01\x02\x03\x04"},
	} {
		l := slices.Clone(c.l)
		if s := put(l...); s != c.want || !reflect.DeepEqual(l, c.l) {
			t.Errorf("put(%v) = %q, want %q", c.l, s, c.want)
		}
	}
}

// P20.2
func TestBytes(t *testing.T) {
	for _, c := range []struct {
		l    []api.Tell
		want string
	}{
		{nil, ""},
		{[]api.Tell{}, ""},
		{[]api.Tell{{Kind: '1'}}, "1\x00\x00\x00\x04"},
		{[]api.Tell{{Kind: 'Z', Status: 'I'}}, "Z\x00\x00\x00\x05I"},
		{
			[]api.Tell{{Kind: 'R'}, {Kind: 'K', N: 258, M: -1}, {Kind: 'Z', Status: 'I'}},
			"R\x00\x00\x00\x08\x00\x00\x00\x00" + "K\x00\x00\x00\x0c\x00\x00\x01\x02\xff\xff\xff\xff" + "Z\x00\x00\x00\x05I",
		},
		{
			[]api.Tell{{Kind: 'T', Keys: []string{"k"}}, {Kind: 'D', Vals: []string{"7"}, Null: []bool{false}}, {Kind: 'C', Text: "SELECT 1"}, {Kind: 'Z', Status: 'T'}},
			"T\x00\x00\x00\x1a\x00\x01k\x00" + tail + "D\x00\x00\x00\x0b\x00\x01\x00\x00\x00\x017" + "C\x00\x00\x00\x0dSELECT 1\x00" + "Z\x00\x00\x00\x05T",
		},
		{
			[]api.Tell{{Kind: 's'}, {Kind: 's'}, {Kind: 'n'}, {Kind: 's'}},
			"s\x00\x00\x00\x04s\x00\x00\x00\x04n\x00\x00\x00\x04s\x00\x00\x00\x04",
		},
		{[]api.Tell{{Kind: 'C', Text: xs(4091)}}, "C\x00\x00\x10\x00" + xs(4091) + "\x00"},
	} {
		if s, err := Bytes(c.l); s != c.want || err != api.OK {
			t.Errorf("Bytes(%+v) = %q, %d, want %q", c.l, s, err, c.want)
		}
	}
}

// P20.2
func TestBytesOneWrong(t *testing.T) {
	var right []api.Tell
	for _, c := range rightOnes() {
		right = append(right, c.tell)
	}
	for at := range len(right) + 1 {
		for _, wrong := range []api.Tell{{}, {Kind: 'Q'}, {Kind: 'R', N: 1}, {Kind: 'C', Text: xs(4092)}} {
			l := slices.Insert(slices.Clone(right), at, wrong)
			if s, err := Bytes(l); s != "" || err != api.ErrForm {
				t.Errorf("a wrong one at %d: %d bytes, %d", at, len(s), err)
			}
		}
	}
}

// P20.2: a list may be as long as it wants.
func TestBytesOfMany(t *testing.T) {
	l := slices.Repeat([]api.Tell{{Kind: 'C', Text: xs(95)}}, 1<<16)
	if s, err := Bytes(l); s != strings.Repeat("C\x00\x00\x00\x64"+xs(95)+"\x00", 1<<16) || err != api.OK {
		t.Errorf("%d bytes, %d", len(s), err)
	}
	l = append(l, api.Tell{Kind: 'C', Text: "\x00"})
	if s, err := Bytes(l); s != "" || err != api.ErrForm {
		t.Errorf("%d bytes, %d", len(s), err)
	}
}

// P20.2: what is told is read as messages, one by one.
func TestBytesAreMessages(t *testing.T) {
	var l []api.Tell
	for _, c := range rightOnes() {
		l = append(l, c.tell)
	}
	s, err := Bytes(l)
	if err != api.OK {
		t.Fatal(err)
	}
	msgs, err := frame.New(false).Feed(s)
	if err != api.OK || len(msgs) != len(l) {
		t.Fatalf("%d messages of %d, %d", len(msgs), len(l), err)
	}
	for i, m := range msgs {
		if u, err := Decode(m); !alike(u, l[i]) || err != api.OK {
			t.Errorf("%+v came back as %+v, %d", l[i], u, err)
		}
	}
}
