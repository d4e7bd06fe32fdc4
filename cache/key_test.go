package cache

import (
	"math"
	"regexp"
	"slices"
	"strings"
	"testing"
)

// rightKeys is keys that are right, each with its text.
var rightKeys = map[Key]string{
	{}:                                 "\x00\x00\x00\x00\x00",
	{Format: 1}:                        "\x00\x00\x00\x01\x00",
	{Db: "d"}:                          "d\x00\x00\x00\x00\x00",
	{Role: "r"}:                        "\x00r\x00\x00\x00\x00",
	{Norm: "n"}:                        "\x00\x00\x00\x00n\x00",
	{"d", "r", 0, "n"}:                 "d\x00r\x00\x00\x00n\x00",
	{"d", "r", 1, "n"}:                 "d\x00r\x00\x00\x01n\x00",
	{"data", "", 1, "select 1"}:        "data\x00\x00\x00\x01select 1\x00",
	{"", "role", 0, "select * from t"}: "\x00role\x00\x00\x00select * from t\x00",
	{"\x01", "\x02", 1, "\x01"}:        "\x01\x00\x02\x00\x00\x01\x01\x00",
	{"\xff", "\xff\xfe", 0, "é"}:       "\xff\x00\xff\xfe\x00\x00\x00é\x00",
	{" d", "r ", 0, " "}:               " d\x00r \x00\x00\x00 \x00",
	{"", "", 0, "\x01"}:                "\x00\x00\x00\x00\x01\x00",
	{"D", "d", 0, strings.Repeat("n", 10000)}: "D\x00d\x00\x00\x00" + strings.Repeat("n", 10000) + "\x00",
}

// wrongKeys is keys that are not right.
func wrongKeys() []Key {
	var l []Key
	for _, s := range []string{"\x00", "\x00a", "a\x00", "a\x00b", "\x00\x00", "\x00\x01", "\xff\x00"} {
		l = append(l, Key{Db: s, Role: "r", Norm: "n"}, Key{Db: "d", Role: s, Norm: "n"}, Key{Db: "d", Role: "r", Norm: s},
			Key{Db: s}, Key{Role: s}, Key{Norm: s}, Key{s, s, 1, s}, Key{s, "r", 2, "n"}, Key{"d", "r", -1, s})
	}
	for _, n := range []int{-1, 2, 3, -2, 255, 256, 257, 1 << 15, 1<<16 - 1, 1 << 16, 1<<16 + 1, 1 << 32, 1<<32 + 1, -1 << 16, 1 - 1<<16, math.MaxInt, math.MinInt, math.MinInt + 1} {
		l = append(l, Key{Format: n}, Key{"d", "r", n, "n"})
	}
	return l
}

// P12.1: the text and the size of keys that are right, and that the text is parsed as that key
func TestRightKeys(t *testing.T) {
	for k, text := range rightKeys {
		if got := Text(k); got != text {
			t.Errorf("Text(%#v) = %q, want %q", k, got, text)
		}
		if got, ok := Parse(text); got != k || !ok {
			t.Errorf("Parse(%q) = %#v, %t, want %#v", text, got, ok, k)
		}
		for _, value := range []string{"", "v", "\x00", "\x00\x00\x00", "é", strings.Repeat("v", 3000)} {
			if got, want := Size(k, value), 16+len(text)+len(value); got != want {
				t.Errorf("Size(%#v, %d bytes) = %d, want %d", k, len(value), got, want)
			}
		}
	}
	if got := Size(Key{"d", "r", 0, "n"}, "abc"); got != 27 {
		t.Errorf("Size = %d, want 27", got)
	}
	if got := Size(Key{}, ""); got != 21 {
		t.Errorf("Size of the least entry = %d, want 21", got)
	}
}

// P12.1: keys that are not right have no text and no size
func TestWrongKeys(t *testing.T) {
	for _, k := range wrongKeys() {
		if got := Text(k); got != "" {
			t.Errorf("Text(%#v) = %q", k, got)
		}
		for _, value := range []string{"", "v", strings.Repeat("v", 3000)} {
			if got := Size(k, value); got != 0 {
				t.Errorf("Size(%#v, %d bytes) = %d", k, len(value), got)
			}
		}
	}
}

// P12.1: texts that are no key's: one byte less, one more, another format
func TestParseWrong(t *testing.T) {
	for _, s := range []string{
		"", "\x00", "\x00\x00", "\x00\x00\x00", "\x00\x00\x00\x00", "\x00\x00\x00\x00\x00\x00", "a", "abcde", "\x00\x00\x00\x00n",
		"d\x00r\x00\x00\x00n", "d\x00r\x00\x00\x00", "d\x00r\x00\x00", "d\x00r\x00", "d\x00r", "d\x00", "d",
		"d\x00r\x00\x00\x00n\x00\x00", "d\x00r\x00\x00\x00n\x00x", "d\x00r\x00\x00\x00n\x00n\x00", "d\x00r\x00\x00n\x00", "d\x00r\x00\x00\x00\x00n\x00", "d\x00r\x00\x01n\x00",
		"d\x00r\x00\x00\x02n\x00", "d\x00r\x00\x01\x00n\x00", "d\x00r\x00\x01\x01n\x00", "d\x00r\x00\xff\xffn\x00", "d\x00r\x00\x00\xffn\x00", "d\x00r\x00\x80\x00n\x00", "d\x00r\x00\x80\x01n\x00", "d\x00r\x0000n\x00",
		strings.Repeat("\x00", 1000), strings.Repeat("a", 1000),
	} {
		if k, ok := Parse(s); ok || k != (Key{}) {
			t.Errorf("Parse(%q) = %#v, %t", s, k, ok)
		}
	}
	for k, text := range rightKeys {
		for _, s := range []string{text[:len(text)-1], text + "\x00", text + "x", text + text} {
			if got, ok := Parse(s); ok || got != (Key{}) {
				t.Errorf("Parse(%.50q) = %#v, %t", s, got, ok)
			}
		}
		at := len(k.Db) + len(k.Role) + 2
		for _, format := range []string{"\x00\x02", "\x01\x00", "\x01\x01", "\xff\xff", "\x00\xff", "\x80\x00"} {
			s := text[:at] + format + text[at+2:]
			if got, ok := Parse(s); ok || got != (Key{}) {
				t.Errorf("Parse(%.50q) = %#v, %t", s, got, ok)
			}
		}
	}
}

// P12.1: all short texts of some bytes: those that a pattern takes are keys' texts, and no others
func TestParseAll(t *testing.T) {
	form := regexp.MustCompile("(?s)^([^\x00]*)\x00([^\x00]*)\x00\x00([\x00\x01])([^\x00]*)\x00$")
	met := map[bool]int{}
	told := map[Key]string{}
	texts := []string{""}
	for len(texts[0]) <= 7 {
		var longer []string
		for _, s := range texts {
			m := form.FindStringSubmatch(s)
			k, ok := Parse(s)
			met[ok]++
			if ok != (m != nil) {
				t.Fatalf("Parse(%q) = %#v, %t", s, k, ok)
			}
			if ok && (k != (Key{m[1], m[2], int(m[3][0]), m[4]}) || Text(k) != s) {
				t.Fatalf("Parse(%q) = %#v", s, k)
			}
			if ok && told[k] != "" {
				t.Fatalf("%q and %q are one key's", s, told[k])
			}
			if ok {
				told[k] = s
			}
			for _, b := range []string{"\x00", "\x01", "\x02", "a", "\xff"} {
				longer = append(longer, s+b)
			}
		}
		texts = longer
	}
	if met[true] < 100 || met[false] < 10000 {
		t.Errorf("%d keys' texts, %d others", met[true], met[false])
	}
}

// P12.1: two keys that are not one have two texts, also where a part's bytes move to another one
func TestTextsDiffer(t *testing.T) {
	var keys []Key
	parts := []string{"", "a", "b", "ab", "ba", "\x01"}
	for _, db := range parts {
		for _, role := range parts {
			for _, norm := range parts {
				keys = append(keys, Key{db, role, 0, norm}, Key{db, role, 1, norm})
			}
		}
	}
	var texts []string
	for _, k := range keys {
		texts = append(texts, Text(k))
	}
	slices.Sort(texts)
	if n := len(slices.Compact(texts)); n != len(keys) {
		t.Errorf("%d texts of %d keys", n, len(keys))
	}
}
