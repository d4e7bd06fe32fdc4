package front

import (
	"math/rand"
	"reflect"
	"slices"
	"strings"
	"testing"

	"pontoon/api"
	"pontoon/frame"
)

const (
	low  = -1 << 31 // the least number of four bytes
	high = 1<<31 - 1
)

// said is something that is asked, and its message's body.
type said struct {
	ask  api.Ask
	body string
}

// repeated is a text n times, as a list.
func repeated(s string, n int) []string {
	return slices.Repeat([]string{s}, n)
}

// rightOnes is what can be asked, with ordinary inputs of each kind, and edges.
func rightOnes() []said {
	xs := func(n int) string { return strings.Repeat("x", n) }
	return []said{
		// Kind 0, with pairs.
		{api.Ask{}, "\x00\x03\x00\x00\x00"},
		{api.Ask{Keys: []string{"user"}, Vals: []string{"u"}}, "\x00\x03\x00\x00user\x00u\x00\x00"},
		{api.Ask{Keys: []string{"user", "database"}, Vals: []string{"u", "d"}}, "\x00\x03\x00\x00user\x00u\x00database\x00d\x00\x00"},
		{api.Ask{Keys: []string{"a", "a", "b"}, Vals: []string{"", "", "\xff"}}, "\x00\x03\x00\x00a\x00\x00a\x00\x00b\x00\xff\x00\x00"},
		{api.Ask{Keys: repeated("k", 100), Vals: repeated("", 100)}, "\x00\x03\x00\x00" + strings.Repeat("k\x00\x00", 100) + "\x00"},
		{api.Ask{Keys: []string{"k"}, Vals: []string{xs(4084)}}, "\x00\x03\x00\x00k\x00" + xs(4084) + "\x00\x00"},
		// Kind 0, with a cancel.
		{api.Ask{Cancel: true}, "\x04\xd2\x16\x2e\x00\x00\x00\x00\x00\x00\x00\x00"},
		{api.Ask{Cancel: true, Pid: 258, Secret: -1}, "\x04\xd2\x16\x2e\x00\x00\x01\x02\xff\xff\xff\xff"},
		{api.Ask{Cancel: true, Pid: low, Secret: high}, "\x04\xd2\x16\x2e\x80\x00\x00\x00\x7f\xff\xff\xff"},
		{api.Ask{Cancel: true, Pid: high, Secret: low}, "\x04\xd2\x16\x2e\x7f\xff\xff\xff\x80\x00\x00\x00"},
		// A text.
		{api.Ask{Kind: 'p'}, "\x00"},
		{api.Ask{Kind: 'p', Sql: "secret"}, "secret\x00"},
		{api.Ask{Kind: 'Q', Sql: "a"}, "a\x00"},
		{api.Ask{Kind: 'Q'}, "\x00"},
		{api.Ask{Kind: 'Q', Sql: "select '\xff\x01'"}, "select '\xff\x01'\x00"},
		{api.Ask{Kind: 'Q', Sql: xs(4091)}, xs(4091) + "\x00"},
		// Nothing.
		{api.Ask{Kind: 'X'}, ""},
		{api.Ask{Kind: 'S'}, ""},
		{api.Ask{Kind: 'H'}, ""},
		// Statements that are prepared.
		{api.Ask{Kind: 'P'}, "\x00\x00\x00\x00"},
		{api.Ask{Kind: 'P', Name: "n", Sql: "select 1"}, "n\x00select 1\x00\x00\x00"},
		{api.Ask{Kind: 'P', Name: "n", Sql: xs(4087)}, "n\x00" + xs(4087) + "\x00\x00\x00"},
		// Portals.
		{api.Ask{Kind: 'B'}, "\x00\x00\x00\x00\x00\x00\x00\x00"},
		{api.Ask{Kind: 'B', Portal: "p", Name: "n"}, "p\x00n\x00\x00\x00\x00\x00\x00\x00"},
		{api.Ask{Kind: 'B', Name: "n", Args: []string{"", "", "ab"}, Null: []bool{true, false, false}}, "\x00n\x00\x00\x00\x00\x03\xff\xff\xff\xff\x00\x00\x00\x00\x00\x00\x00\x02ab\x00\x00"},
		{api.Ask{Kind: 'B', Args: []string{"\x00", "a\x00b"}, Null: []bool{false, false}}, "\x00\x00\x00\x00\x00\x02\x00\x00\x00\x01\x00\x00\x00\x00\x03a\x00b\x00\x00"},
		{api.Ask{Kind: 'B', Formats: []int{0, 1, 1}}, "\x00\x00\x00\x00\x00\x00\x00\x03\x00\x00\x00\x01\x00\x01"},
		{api.Ask{Kind: 'B', Portal: "p", Name: "n", Args: []string{"7"}, Null: []bool{false}, Formats: []int{1}}, "p\x00n\x00\x00\x00\x00\x01\x00\x00\x00\x017\x00\x01\x00\x01"},
		{api.Ask{Kind: 'B', Args: repeated("", 100), Null: make([]bool, 100)}, "\x00\x00\x00\x00\x00\x64" + strings.Repeat("\x00", 400) + "\x00\x00"},
		{api.Ask{Kind: 'B', Args: repeated("", 100), Null: slices.Repeat([]bool{true}, 100)}, "\x00\x00\x00\x00\x00\x64" + strings.Repeat("\xff", 400) + "\x00\x00"},
		{api.Ask{Kind: 'B', Formats: slices.Repeat([]int{1}, 100)}, "\x00\x00\x00\x00\x00\x00\x00\x64" + strings.Repeat("\x00\x01", 100)},
		{api.Ask{Kind: 'B', Args: []string{xs(4080)}, Null: []bool{false}}, "\x00\x00\x00\x00\x00\x01\x00\x00\x0f\xf0" + xs(4080) + "\x00\x00"},
		// Names.
		{api.Ask{Kind: 'D', What: 'S', Name: "n"}, "Sn\x00"},
		{api.Ask{Kind: 'D', What: 'P'}, "P\x00"},
		{api.Ask{Kind: 'C', What: 'S'}, "S\x00"},
		{api.Ask{Kind: 'C', What: 'P', Name: "p"}, "Pp\x00"},
		{api.Ask{Kind: 'C', What: 'P', Name: xs(4090)}, "P" + xs(4090) + "\x00"},
		// Portals that are done.
		{api.Ask{Kind: 'E'}, "\x00\x00\x00\x00\x00"},
		{api.Ask{Kind: 'E', Portal: "p", Most: 258}, "p\x00\x00\x00\x01\x02"},
		{api.Ask{Kind: 'E', Most: high}, "\x00\x7f\xff\xff\xff"},
		{api.Ask{Kind: 'E', Portal: xs(4087), Most: 1}, xs(4087) + "\x00\x00\x00\x00\x01"},
	}
}

// alike tells whether two asks are the same, a nil list as an empty one.
func alike(a, b api.Ask) bool {
	return reflect.DeepEqual(withLists(a), withLists(b))
}

// withLists is an ask whose lists that are empty are nil.
func withLists(a api.Ask) api.Ask {
	a.Keys, a.Vals, a.Args = orNil(a.Keys), orNil(a.Vals), orNil(a.Args)
	a.Null, a.Formats = orNil(a.Null), orNil(a.Formats)
	return a
}

func orNil[T any](l []T) []T {
	if len(l) == 0 {
		return nil
	}
	return l
}

// refuses checks that something can't be asked.
func refuses(t *testing.T, what string, a api.Ask) {
	t.Helper()
	if Right(a) {
		t.Errorf("%s: Right(%+v)", what, a)
	}
	if m, err := Encode(a); m != (api.Msg{}) || err != api.ErrForm {
		t.Errorf("%s: Encode(%+v) = %q, %d", what, a, m, err)
	}
}

// fails checks that a message asks nothing.
func fails(t *testing.T, m api.Msg, want api.Errno) {
	t.Helper()
	if a, err := Decode(m); !reflect.DeepEqual(a, api.Ask{}) || err != want {
		t.Errorf("Decode(%q, %q) = %+v, %d, want %d", m.Kind, m.Body, a, err, want)
	}
}

// P3.1
func TestDecode(t *testing.T) {
	for _, c := range rightOnes() {
		m := api.Msg{Kind: c.ask.Kind, Body: c.body}
		if a, err := Decode(m); !alike(a, c.ask) || err != api.OK {
			t.Errorf("Decode(%q, %q) = %+v, %d, want %+v", m.Kind, m.Body, a, err, c.ask)
		}
	}
}

// P3.1
func TestDecodeOtherKinds(t *testing.T) {
	known := "\x00pQXSHPBDCE"
	for kind := range 256 {
		if strings.IndexByte(known, byte(kind)) >= 0 {
			continue
		}
		// The Kind is named ahead of the Body, whatever that is.
		for _, body := range []string{"", "a\x00", "\x00\x00\x00\x00\x00", strings.Repeat("x", 5000)} {
			fails(t, api.Msg{Kind: byte(kind), Body: body}, api.ErrKind)
		}
	}
}

// P3.1
func TestDecodeOneByteMoreOrLess(t *testing.T) {
	for _, c := range rightOnes() {
		for _, more := range []string{"\x00", "\x01", "x", "\xff"} {
			fails(t, api.Msg{Kind: c.ask.Kind, Body: c.body + more}, api.ErrForm)
		}
		// No body that is right begins with another one of its Kind.
		for n := range min(len(c.body), 600) {
			fails(t, api.Msg{Kind: c.ask.Kind, Body: c.body[:n]}, api.ErrForm)
			fails(t, api.Msg{Kind: c.ask.Kind, Body: c.body[:len(c.body)-1-n]}, api.ErrForm)
		}
	}
}

// P3.1
func TestDecodeWrong(t *testing.T) {
	xs := func(n int) string { return strings.Repeat("x", n) }
	for _, m := range []api.Msg{
		// Another number ahead of all.
		{Body: "\x00\x03\x00\x01\x00"},
		{Body: "\x00\x02\x00\x00\x00"},
		{Body: "\x00\x00\x00\x00\x00"},
		{Body: "\x04\xd2\x16\x2f\x00\x00\x00\x00\x00\x00\x00\x00"},
		{Body: "\xff\x03\x00\x00\x00"},
		// A body of the other one that Kind 0 has.
		{Body: "\x04\xd2\x16\x2e\x00"},
		{Body: "\x00\x03\x00\x00\x00\x00\x00\x05\xff\xff\xff\xff"},
		// A Key that is empty.
		{Body: "\x00\x03\x00\x00\x00v\x00\x00"},
		{Body: "\x00\x03\x00\x00\x00\x00\x00"},
		{Body: "\x00\x03\x00\x00k\x00v\x00\x00v\x00\x00"},
		{Body: "\x00\x03\x00\x00\x00v\x00k\x00v\x00\x00"},
		// A Key without its Val, texts without ends.
		{Body: "\x00\x03\x00\x00k\x00"},
		{Body: "\x00\x03\x00\x00k\x00\x00"},
		{Body: "\x00\x03\x00\x00k"},
		{Body: "\x00\x03\x00\x00k\x00v"},
		// More Keys than there can be.
		{Body: "\x00\x03\x00\x00" + strings.Repeat("k\x00\x00", 101) + "\x00"},
		{Body: "\x00\x03\x00\x00" + strings.Repeat("k\x00\x00", 1000) + "\x00"},
		// A byte 0 in a text.
		{Kind: 'Q', Body: "a\x00b\x00"},
		{Kind: 'p', Body: "\x00\x00"},
		// Something where nothing is said.
		{Kind: 'X', Body: "\x00"},
		{Kind: 'S', Body: "\x00\x00\x00\x04"},
		{Kind: 'H', Body: "x"},
		// Two bytes that are not 0.
		{Kind: 'P', Body: "n\x00s\x00\x00\x01"},
		{Kind: 'P', Body: "n\x00s\x00\x01\x00"},
		{Kind: 'P', Body: "n\x00s\x00\xff\xff"},
		{Kind: 'P', Body: "n\x00\x00\x00"},
		{Kind: 'B', Body: "\x00\x00\x00\x01\x00\x00\x00\x00"},
		{Kind: 'B', Body: "\x00\x00\x01\x00\x00\x00\x00\x00"},
		// How many Args there are, and how long each is.
		{Kind: 'B', Body: "\x00\x00\x00\x00\xff\xff\x00\x00"},
		{Kind: 'B', Body: "\x00\x00\x00\x00\x80\x00\x00\x00"},
		{Kind: 'B', Body: "\x00\x00\x00\x00\x00\x65" + strings.Repeat("\x00", 404) + "\x00\x00"},
		{Kind: 'B', Body: "\x00\x00\x00\x00\x00\x01\x00\x00\x00\x00"},
		{Kind: 'B', Body: "\x00\x00\x00\x00\x00\x01\xff\xff\xff\xfe\x00\x00"},
		{Kind: 'B', Body: "\x00\x00\x00\x00\x00\x01\x80\x00\x00\x00\x00\x00"},
		{Kind: 'B', Body: "\x00\x00\x00\x00\x00\x01\x00\x00\x00\x03ab"},
		{Kind: 'B', Body: "\x00\x00\x00\x00\x00\x01\x7f\xff\xff\xffab\x00\x00"},
		{Kind: 'B', Body: "\x00\x00\x00\x00\x00\x01\xff\xff\xff\xffa\x00\x00"},
		{Kind: 'B', Body: "\x00\x00\x00\x00\x00\x02\x00\x00\x00\x01a\x00\x00"},
		// How many Formats there are, and which.
		{Kind: 'B', Body: "\x00\x00\x00\x00\x00\x00\xff\xff"},
		{Kind: 'B', Body: "\x00\x00\x00\x00\x00\x00\x80\x00"},
		{Kind: 'B', Body: "\x00\x00\x00\x00\x00\x00\x00\x65" + strings.Repeat("\x00\x01", 101)},
		{Kind: 'B', Body: "\x00\x00\x00\x00\x00\x00\x00\x01\x00\x02"},
		{Kind: 'B', Body: "\x00\x00\x00\x00\x00\x00\x00\x01\xff\xff"},
		{Kind: 'B', Body: "\x00\x00\x00\x00\x00\x00\x00\x01\x01\x00"},
		{Kind: 'B', Body: "\x00\x00\x00\x00\x00\x00\x00\x02\x00\x02\x00\x01"},
		// What is neither S nor P.
		{Kind: 'D', Body: "Xn\x00"},
		{Kind: 'D', Body: "\x00"},
		{Kind: 'D', Body: "\x00\x00"},
		{Kind: 'C', Body: "sn\x00"},
		{Kind: 'C', Body: "p\x00"},
		{Kind: 'C', Body: "n\x00"},
		// Most below 0.
		{Kind: 'E', Body: "\x00\xff\xff\xff\xff"},
		{Kind: 'E', Body: "p\x00\x80\x00\x00\x00"},
		// A message that is too long.
		{Kind: 'Q', Body: xs(4092) + "\x00"},
		{Kind: 'Q', Body: xs(9000) + "\x00"},
		{Body: "\x00\x03\x00\x00k\x00" + xs(4085) + "\x00\x00"},
		{Kind: 'B', Body: "\x00\x00\x00\x00\x00\x01\x00\x00\x0f\xf1" + xs(4081) + "\x00\x00"},
		{Kind: 'E', Body: xs(4088) + "\x00\x00\x00\x00\x01"},
	} {
		fails(t, m, api.ErrForm)
	}
}

// P3.2
func TestEncode(t *testing.T) {
	for _, c := range rightOnes() {
		if !Right(c.ask) {
			t.Errorf("not Right(%+v)", c.ask)
		}
		want := api.Msg{Kind: c.ask.Kind, Body: c.body}
		if m, err := Encode(c.ask); m != want || err != api.OK {
			t.Errorf("Encode(%+v) = %q, %d, want %q", c.ask, m, err, want)
		}
	}
}

// P3.2
func TestEncodeListsThatAreEmpty(t *testing.T) {
	for _, c := range rightOnes() {
		a := withLists(c.ask)
		if a.Keys == nil {
			a.Keys, a.Vals = []string{}, make([]string, 0, 9)
		}
		if a.Args == nil {
			a.Args, a.Null = []string{}, []bool{}
		}
		if a.Formats == nil {
			a.Formats = []int{}
		}
		if m, err := Encode(a); m != (api.Msg{Kind: c.ask.Kind, Body: c.body}) || err != api.OK || !Right(a) {
			t.Errorf("Encode(%+v) = %q, %d", a, m, err)
		}
	}
}

// P3.2
func TestEncodeOtherKinds(t *testing.T) {
	for kind := range 256 {
		if strings.IndexByte("\x00pQXSHPBDCE", byte(kind)) < 0 {
			refuses(t, "Kind", api.Ask{Kind: byte(kind)})
			refuses(t, "Kind", api.Ask{Kind: byte(kind), Sql: "a", Name: "n", What: 'S'})
		}
	}
}

// P3.2
func TestEncodeWrong(t *testing.T) {
	xs := func(n int) string { return strings.Repeat("x", n) }
	for _, c := range []struct {
		what string
		ask  api.Ask
	}{
		{"a Key that is empty", api.Ask{Keys: []string{""}, Vals: []string{"v"}}},
		{"a Key that is empty, its Val too", api.Ask{Keys: []string{""}, Vals: []string{""}}},
		{"a last Key that is empty", api.Ask{Keys: []string{"k", ""}, Vals: []string{"v", ""}}},
		{"Keys alone", api.Ask{Keys: []string{"k"}}},
		{"Vals alone", api.Ask{Vals: []string{"v"}}},
		{"fewer Keys", api.Ask{Keys: []string{"k"}, Vals: []string{"v", "w"}}},
		{"fewer Vals", api.Ask{Keys: []string{"k", "l"}, Vals: []string{"v"}}},
		{"101 Keys", api.Ask{Keys: repeated("k", 101), Vals: repeated("", 101)}},
		{"100 Keys, 101 Vals", api.Ask{Keys: repeated("k", 100), Vals: repeated("", 101)}},
		{"a byte 0 in a Key", api.Ask{Keys: []string{"k\x00"}, Vals: []string{"v"}}},
		{"a byte 0 in a Val", api.Ask{Keys: []string{"k"}, Vals: []string{"\x00v"}}},
		{"bytes 0 that would be a pair", api.Ask{Keys: []string{"k\x00v\x00l"}, Vals: []string{"w"}}},
		{"a start with Pid", api.Ask{Pid: 1}},
		{"a start with Secret", api.Ask{Secret: 1}},
		{"a cancel with pairs", api.Ask{Cancel: true, Keys: []string{"k"}, Vals: []string{"v"}}},

		{"Pid above", api.Ask{Cancel: true, Pid: high + 1}},
		{"Pid below", api.Ask{Cancel: true, Pid: low - 1}},
		{"Pid far above", api.Ask{Cancel: true, Pid: 1 << 32}},
		{"Secret above", api.Ask{Cancel: true, Secret: high + 1}},
		{"Secret below", api.Ask{Cancel: true, Secret: low - 1}},
		{"Secret far below", api.Ask{Cancel: true, Secret: -1 << 63}},

		{"a byte 0 in Sql", api.Ask{Kind: 'Q', Sql: "\x00"}},
		{"a byte 0 behind Sql", api.Ask{Kind: 'Q', Sql: "a\x00"}},
		{"a byte 0 in a password", api.Ask{Kind: 'p', Sql: "a\x00b"}},
		{"a byte 0 in Name", api.Ask{Kind: 'P', Name: "a\x00b", Sql: "c"}},
		{"a byte 0 in Sql of P", api.Ask{Kind: 'P', Name: "a", Sql: "b\x00"}},
		{"a byte 0 in Portal", api.Ask{Kind: 'B', Portal: "\x00"}},
		{"a byte 0 in Name of B", api.Ask{Kind: 'B', Name: "\x00"}},
		{"a byte 0 in Name of D", api.Ask{Kind: 'D', What: 'S', Name: "n\x00"}},
		{"a byte 0 in Portal of E", api.Ask{Kind: 'E', Portal: "p\x00"}},

		{"Args alone", api.Ask{Kind: 'B', Args: []string{"a"}}},
		{"Null alone", api.Ask{Kind: 'B', Null: []bool{false}}},
		{"Null alone, none", api.Ask{Kind: 'B', Null: []bool{true}}},
		{"fewer Args", api.Ask{Kind: 'B', Args: []string{"a"}, Null: []bool{false, false}}},
		{"fewer Null", api.Ask{Kind: 'B', Args: []string{"a", ""}, Null: []bool{false}}},
		{"an Arg that is none, and has bytes", api.Ask{Kind: 'B', Args: []string{"a"}, Null: []bool{true}}},
		{"101 Args", api.Ask{Kind: 'B', Args: repeated("", 101), Null: make([]bool, 101)}},
		{"as many Args as two bytes tell", api.Ask{Kind: 'B', Args: repeated("", 65536), Null: make([]bool, 65536)}},
		{"101 Formats", api.Ask{Kind: 'B', Formats: make([]int, 101)}},
		{"Format 2", api.Ask{Kind: 'B', Formats: []int{2}}},
		{"Format 2 ahead of others", api.Ask{Kind: 'B', Formats: []int{2, 0}}},
		{"Format -1", api.Ask{Kind: 'B', Formats: []int{0, -1}}},
		{"Format 65536", api.Ask{Kind: 'B', Formats: []int{65536}}},
		{"Format 65537", api.Ask{Kind: 'B', Formats: []int{65537}}},

		{"What of nothing", api.Ask{Kind: 'D', Name: "n"}},
		{"What in small letters", api.Ask{Kind: 'C', What: 's'}},
		{"What of another byte", api.Ask{Kind: 'C', What: 255}},
		{"Most below 0", api.Ask{Kind: 'E', Most: -1}},
		{"Most far below 0", api.Ask{Kind: 'E', Most: low}},
		{"Most beyond below", api.Ask{Kind: 'E', Most: low - 1}},
		{"Most above", api.Ask{Kind: 'E', Most: high + 1}},
		{"Most far above", api.Ask{Kind: 'E', Most: 1 << 32}},

		{"a start that is too long", api.Ask{Keys: []string{"k"}, Vals: []string{xs(4085)}}},
		{"Sql that is too long", api.Ask{Kind: 'Q', Sql: xs(4092)}},
		{"a password that is too long", api.Ask{Kind: 'p', Sql: xs(5000)}},
		{"P that is too long", api.Ask{Kind: 'P', Name: "n", Sql: xs(4088)}},
		{"B that is too long", api.Ask{Kind: 'B', Args: []string{xs(4081)}, Null: []bool{false}}},
		{"B that is too long with many", api.Ask{Kind: 'B', Args: repeated(xs(37), 100), Null: make([]bool, 100)}},
		{"C that is too long", api.Ask{Kind: 'C', What: 'P', Name: xs(4091)}},
		{"E that is too long", api.Ask{Kind: 'E', Portal: xs(4088), Most: 1}},
	} {
		refuses(t, c.what, c.ask)
	}
}

// fields is one field at a time, of which a Kind may have, or not have, something.
func fields() map[string]func(*api.Ask) {
	return map[string]func(*api.Ask){
		"Name":    func(a *api.Ask) { a.Name = "n" },
		"Portal":  func(a *api.Ask) { a.Portal = "p" },
		"Sql":     func(a *api.Ask) { a.Sql = "s" },
		"Pairs":   func(a *api.Ask) { a.Keys, a.Vals = []string{"k"}, []string{"v"} },
		"Args":    func(a *api.Ask) { a.Args, a.Null = []string{"a"}, []bool{false} },
		"Null":    func(a *api.Ask) { a.Args, a.Null = []string{""}, []bool{true} },
		"Formats": func(a *api.Ask) { a.Formats = []int{0} },
		"Most":    func(a *api.Ask) { a.Most = 1 },
		"What":    func(a *api.Ask) { a.What = 'S' },
		"Cancel":  func(a *api.Ask) { a.Cancel = true },
		"Pid":     func(a *api.Ask) { a.Pid = 1 },
		"Secret":  func(a *api.Ask) { a.Secret = 1 },
	}
}

// P3.2
func TestEncodeFieldsOfEachKind(t *testing.T) {
	for _, c := range []struct {
		ask api.Ask
		has string
	}{
		{api.Ask{}, "Pairs Cancel"},
		{api.Ask{Cancel: true}, "Cancel Pid Secret"},
		{api.Ask{Kind: 'p'}, "Sql"},
		{api.Ask{Kind: 'Q'}, "Sql"},
		{api.Ask{Kind: 'X'}, ""},
		{api.Ask{Kind: 'S'}, ""},
		{api.Ask{Kind: 'H'}, ""},
		{api.Ask{Kind: 'P'}, "Name Sql"},
		{api.Ask{Kind: 'B'}, "Portal Name Args Null Formats"},
		{api.Ask{Kind: 'D', What: 'P'}, "What Name"},
		{api.Ask{Kind: 'C', What: 'P'}, "What Name"},
		{api.Ask{Kind: 'E'}, "Portal Most"},
	} {
		for name, set := range fields() {
			a := c.ask
			set(&a)
			want := slices.Contains(strings.Fields(c.has), name)
			if _, err := Encode(a); Right(a) != want || (err == api.OK) != want {
				t.Errorf("%+v with %s: %t, %d, want %t", c.ask, name, Right(a), err, want)
			}
		}
	}
}

// P3.2: what can't be a message is told at once, however long it is.
func TestEncodeFarTooLong(t *testing.T) {
	long := strings.Repeat("x", 1<<24)
	refuses := func(a api.Ask) {
		t.Helper()
		if m, err := Encode(a); m != (api.Msg{}) || err != api.ErrForm || Right(a) {
			t.Errorf("Kind %q: %d bytes, %d", a.Kind, len(m.Body), err)
		}
	}
	refuses(api.Ask{Keys: repeated("k", 100), Vals: repeated(long, 100)})
	refuses(api.Ask{Keys: repeated(long, 100), Vals: repeated("", 100)})
	refuses(api.Ask{Kind: 'B', Args: repeated(long, 100), Null: make([]bool, 100)})
	refuses(api.Ask{Kind: 'P', Name: long, Sql: long})
	refuses(api.Ask{Kind: 'B', Portal: long})
	refuses(api.Ask{Kind: 'B', Formats: make([]int, 1<<20)})
	refuses(api.Ask{Keys: repeated("k", 1<<20), Vals: repeated("v", 1<<20)})
}

// P3.2
func TestEncodeLeavesItsLists(t *testing.T) {
	a := api.Ask{Kind: 'B', Args: []string{"a", ""}, Null: []bool{false, true}, Formats: []int{1, 0}}
	if _, err := Encode(a); err != api.OK {
		t.Fatal(err)
	}
	want := api.Ask{Kind: 'B', Args: []string{"a", ""}, Null: []bool{false, true}, Formats: []int{1, 0}}
	if !reflect.DeepEqual(a, want) {
		t.Errorf("%+v", a)
	}
}

// P3.3
func TestEncodedIsDecoded(t *testing.T) {
	for _, c := range rightOnes() {
		m, err := Encode(c.ask)
		if err != api.OK {
			t.Errorf("Encode(%+v): %d", c.ask, err)
		}
		if a, err := Decode(m); !alike(a, c.ask) || err != api.OK {
			t.Errorf("%+v came back as %+v, %d", c.ask, a, err)
		}
		if !frame.Right(m) {
			t.Errorf("the message of %+v is not right", c.ask)
		}
	}
}

// P3.3: a byte of a right body is changed: what is then decoded is encoded as it was, and is right.
func TestDecodedIsEncoded(t *testing.T) {
	for _, c := range rightOnes() {
		for at := range min(len(c.body), 40) {
			for _, b := range []byte{0, 1, 2, 'P', 'S', 'a', 100, 101, 127, 128, 254, 255} {
				body := []byte(c.body)
				body[at] = b
				encodes(t, api.Msg{Kind: c.ask.Kind, Body: string(body)})
			}
		}
	}
}

// P3.3: bytes of all sorts.
func TestDecodedIsEncodedOfAnyBytes(t *testing.T) {
	chance := rand.New(rand.NewSource(3))
	heads := []string{"", "\x00\x03\x00\x00", "\x04\xd2\x16\x2e", "S", "P", "a\x00", "\x00\x00\x00\x00", "\x00\x00\x00\x00\x00\x01"}
	bytes := "\x00\x00\x00\x00\x01\x01\x02ab\xff"
	for range 200000 {
		body := []byte(heads[chance.Intn(len(heads))])
		for range chance.Intn(14) {
			body = append(body, bytes[chance.Intn(len(bytes))])
		}
		encodes(t, api.Msg{Kind: "\x00pQXSHPBDCE"[chance.Intn(11)], Body: string(body)})
	}
}

// encodes checks that what a message asks, if it asks something, is encoded as that message.
func encodes(t *testing.T, m api.Msg) {
	t.Helper()
	a, err := Decode(m)
	if err != api.OK {
		fails(t, m, api.ErrForm)
		return
	}
	if back, err := Encode(a); back != m || err != api.OK || !Right(a) {
		t.Errorf("%q came back as %q, %d, by way of %+v", m, back, err, a)
	}
	if len(a.Keys) != len(a.Vals) || len(a.Null) != len(a.Args) || len(a.Keys) > 100 || len(a.Args) > 100 || len(a.Formats) > 100 {
		t.Errorf("%q: %+v", m, a)
	}
}
