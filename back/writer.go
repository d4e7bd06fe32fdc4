package back

import (
	"strings"

	"pontoon/api"
	"pontoon/octet"
)

// number is a number, and in how many bytes it is put: two, or four.
type number struct {
	n     int
	width int
}

// two is a number of two bytes.
func two(n int) number {
	return number{n: n, width: 2}
}

// four is a number of four bytes.
func four(n int) number {
	return number{n: n, width: 4}
}

// put is the bytes of numbers, one behind the other.
func put(l ...number) string {
	s := ""
	for _, x := range l {
		if x.width == 2 {
			s = octet.Put16(s, x.n)
		} else {
			s = octet.Put32(s, x.n)
		}
	}
	return s
}

// column is what stands behind each column's name: of no table, at no place there, a text of any length, told as text.
func column() string {
	return put(four(0), two(0), four(25), two(-1), four(-1), two(0))
}

// writeLogin writes what is asked of one who logs in.
func writeLogin(t api.Tell) string {
	return put(four(t.N))
}

// writeSecret writes by which numbers a client can cancel.
func writeSecret(t api.Tell) string {
	return put(four(t.N), four(t.M))
}

// writeStatus writes a session's status.
func writeStatus(t api.Tell) string {
	return string([]byte{t.Status})
}

// writeDone writes what was done.
func writeDone(t api.Tell) string {
	return octet.PutText("", t.Text)
}

// writeSetting writes a parameter and what it is set to.
func writeSetting(t api.Tell) string {
	body := octet.PutText("", t.Text)
	for _, v := range t.Vals {
		body = octet.PutText(body, v)
	}
	return body
}

// writeColumns writes the names of columns.
func writeColumns(t api.Tell) string {
	like := column()
	var body strings.Builder
	body.WriteString(put(two(len(t.Keys))))
	for _, k := range t.Keys {
		body.WriteString(octet.PutText("", k))
		body.WriteString(like)
	}
	return body.String()
}

// writeRow writes the values of a row.
func writeRow(t api.Tell) string {
	n := min(len(t.Vals), len(t.Null))
	var body strings.Builder
	body.WriteString(put(two(n)))
	for i := range n {
		if t.Null[i] {
			body.WriteString(put(four(none)))
			continue
		}
		body.WriteString(put(four(len(t.Vals[i]))))
		body.WriteString(t.Vals[i])
	}
	return body.String()
}

// writeFields writes the fields of an error.
func writeFields(t api.Tell) string {
	var body strings.Builder
	for i := range min(len(t.Keys), len(t.Vals)) {
		body.WriteString(octet.PutText("", t.Keys[i]+t.Vals[i]))
	}
	body.WriteString(octet.PutText("", ""))
	return body.String()
}

// writeNothing writes a body that says nothing.
func writeNothing(api.Tell) string {
	return ""
}
