package front

import (
	"pontoon/api"
	"pontoon/octet"
)

// writer writes a body from its beginning on.
type writer struct {
	body string
}

// first writes a start, or a cancel.
func (w *writer) first(a api.Ask) {
	if a.Cancel {
		w.four(cancelCode)
		w.four(a.Pid)
		w.four(a.Secret)
		return
	}
	w.four(startCode)
	for i := range min(len(a.Keys), len(a.Vals)) {
		w.text(a.Keys[i])
		w.text(a.Vals[i])
	}
	w.text("")
}

// sql writes a text.
func (w *writer) sql(a api.Ask) {
	w.text(a.Sql)
}

// nothing writes a body that says nothing.
func (w *writer) nothing(api.Ask) {}

// parse writes a statement that is to be prepared.
func (w *writer) parse(a api.Ask) {
	w.text(a.Name)
	w.text(a.Sql)
	w.two(0)
}

// bind writes a portal's arguments.
func (w *writer) bind(a api.Ask) {
	w.text(a.Portal)
	w.text(a.Name)
	w.two(0)
	n := min(len(a.Args), len(a.Null))
	w.two(n)
	for i := range n {
		if a.Null[i] {
			w.four(none)
			continue
		}
		w.four(len(a.Args[i]))
		w.body += a.Args[i]
	}
	w.two(len(a.Formats))
	for _, f := range a.Formats {
		w.two(f)
	}
}

// named writes the name of a statement, or of a portal.
func (w *writer) named(a api.Ask) {
	w.body += string([]byte{a.What})
	w.text(a.Name)
}

// execute writes which portal is to be done, and how far.
func (w *writer) execute(a api.Ask) {
	w.text(a.Portal)
	w.four(a.Most)
}

// two writes a number of two bytes.
func (w *writer) two(n int) {
	w.body = octet.Put16(w.body, n)
}

// four writes a number of four bytes.
func (w *writer) four(n int) {
	w.body = octet.Put32(w.body, n)
}

// text writes a text and its end.
func (w *writer) text(t string) {
	w.body = octet.PutText(w.body, t)
}
