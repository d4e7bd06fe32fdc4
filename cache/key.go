package cache

import (
	"strings"

	"pontoon/octet"
)

// overhead is what each entry takes beside its key's text, and its value.
const overhead = 16

// Key is what a value is kept by.
type Key struct {
	Db, Role string
	Format   int
	Norm     string
}

// Text is a key's text.
func Text(k Key) string {
	if !right(k) {
		return ""
	}
	s := octet.PutText(octet.PutText("", k.Db), k.Role)
	return octet.PutText(octet.Put16(s, k.Format), k.Norm)
}

// Parse is a text's key.
func Parse(s string) (Key, bool) {
	db, at, _ := octet.GetText(s, 0)
	role, at, _ := octet.GetText(s, at)
	format, at, _ := octet.Get16(s, at)
	norm, _, _ := octet.GetText(s, at)
	k := Key{Db: db, Role: role, Format: format, Norm: norm}
	// Where a part was not got, or bytes are left, or the key is not right, its text is another one.
	if Text(k) != s {
		return Key{}, false
	}
	return k, true
}

// Size is an entry's size.
func Size(k Key, value string) int {
	text := Text(k)
	if text == "" {
		return 0
	}
	return overhead + len(text) + len(value)
}

// right tells whether a key is right; the text of one that is right is never empty.
func right(k Key) bool {
	for _, part := range []string{k.Db, k.Role, k.Norm} {
		if strings.IndexByte(part, 0) >= 0 {
			return false
		}
	}
	return k.Format == 0 || k.Format == 1
}
