package front

import (
	"pontoon/api"
	"pontoon/octet"
)

// The numbers that a first message begins with.
const (
	startCode  = 196608
	cancelCode = 80877102
)

// none is how many bytes an argument that is none is said to have.
const none = -1

// reader reads a body from its beginning on.
type reader struct {
	body  string
	at    int
	wrong bool // whether something was read that can't be: it stays so
}

// first reads a start, or a cancel.
func (r *reader) first(a *api.Ask) {
	switch r.four() {
	case startCode:
		r.pairs(a)
	case cancelCode:
		a.Cancel = true
		a.Pid = r.four()
		a.Secret = r.four()
	default:
		r.wrong = true
	}
}

// pairs reads Keys and Vals, and the byte 0 that ends them.
func (r *reader) pairs(a *api.Ask) {
	// The byte 0 at the end reads as a Key that is empty, and so does a Key that is not there.
	for key := r.text(); key != ""; key = r.text() {
		a.Keys = append(a.Keys, key)
		a.Vals = append(a.Vals, r.text())
	}
	r.need(len(a.Keys) <= most)
}

// sql reads a text.
func (r *reader) sql(a *api.Ask) {
	a.Sql = r.text()
}

// nothing reads a body that says nothing.
func (r *reader) nothing(*api.Ask) {}

// parse reads a statement that is to be prepared.
func (r *reader) parse(a *api.Ask) {
	a.Name = r.text()
	a.Sql = r.text()
	r.need(r.two() == 0)
}

// bind reads a portal's arguments.
func (r *reader) bind(a *api.Ask) {
	a.Portal = r.text()
	a.Name = r.text()
	r.need(r.two() == 0)
	for range r.count() {
		n := r.four()
		a.Null = append(a.Null, n == none)
		if n == none {
			n = 0
		}
		a.Args = append(a.Args, r.bytes(n))
	}
	for range r.count() {
		f := r.two()
		r.need(f == 0 || f == 1)
		a.Formats = append(a.Formats, f)
	}
}

// named reads the name of a statement, or of a portal.
func (r *reader) named(a *api.Ask) {
	what := r.bytes(1)
	r.need(what == "S" || what == "P")
	a.Name = r.text()
	if !r.wrong {
		a.What = what[0]
	}
}

// execute reads which portal is to be done, and how far.
func (r *reader) execute(a *api.Ask) {
	a.Portal = r.text()
	a.Most = r.four()
	r.need(a.Most >= 0)
}

// count reads how many there are of something.
func (r *reader) count() int {
	n := r.two()
	r.need(n >= 0 && n <= most)
	if r.wrong {
		return 0
	}
	return n
}

// two reads a number of two bytes.
func (r *reader) two() int {
	n, behind, err := octet.Get16(r.body, r.at)
	r.pass(behind, err)
	return n
}

// four reads a number of four bytes.
func (r *reader) four() int {
	n, behind, err := octet.Get32(r.body, r.at)
	r.pass(behind, err)
	return n
}

// text reads a text and its end.
func (r *reader) text() string {
	t, behind, err := octet.GetText(r.body, r.at)
	r.pass(behind, err)
	return t
}

// bytes reads so many bytes.
func (r *reader) bytes(n int) string {
	t, behind, err := octet.GetBytes(r.body, r.at, n)
	r.pass(behind, err)
	return t
}

// pass goes behind what was read.
func (r *reader) pass(behind int, err api.Errno) {
	if err != api.OK {
		r.wrong = true
		// What is wrong is read no further, so that a loop over it ends.
		behind = len(r.body)
	}
	r.at = behind
}

// need tells that a body is wrong, if something does not hold.
func (r *reader) need(holds bool) {
	if !holds {
		r.wrong = true
	}
}
