package back

import (
	"pontoon/api"
	"pontoon/octet"
)

// reader reads a body from its beginning on.
type reader struct {
	body  string
	at    int
	wrong bool // whether something was read that can't be: it stays so
}

// login reads what is asked of one who logs in.
func (r *reader) login(t *api.Tell) {
	t.N = take(r, octet.Get32)
	r.need(t.N == 0 || t.N == 3)
}

// secret reads by which numbers a client can cancel.
func (r *reader) secret(t *api.Tell) {
	t.N = take(r, octet.Get32)
	t.M = take(r, octet.Get32)
}

// status reads a session's status.
func (r *reader) status(t *api.Tell) {
	switch s := r.bytes(1); s {
	case "I", "T", "E":
		t.Status = s[0]
	default:
		r.wrong = true
	}
}

// done reads what was done.
func (r *reader) done(t *api.Tell) {
	t.Text = take(r, octet.GetText)
}

// setting reads a parameter and what it is set to.
func (r *reader) setting(t *api.Tell) {
	t.Text = take(r, octet.GetText)
	t.Vals = []string{take(r, octet.GetText)}
}

// columns reads the names of columns.
func (r *reader) columns(t *api.Tell) {
	like := column()
	for range r.count() {
		t.Keys = append(t.Keys, take(r, octet.GetText))
		r.need(r.bytes(len(like)) == like)
	}
}

// row reads the values of a row.
func (r *reader) row(t *api.Tell) {
	for range r.count() {
		n := take(r, octet.Get32)
		t.Null = append(t.Null, n == none)
		if n == none {
			n = 0
		}
		t.Vals = append(t.Vals, r.bytes(n))
	}
}

// fields reads the fields of an error, and the byte 0 that ends them.
func (r *reader) fields(t *api.Tell) {
	for k := r.bytes(1); k != "\x00" && !r.wrong; k = r.bytes(1) {
		t.Keys = append(t.Keys, k)
		t.Vals = append(t.Vals, take(r, octet.GetText))
	}
	r.need(len(t.Keys) <= most)
}

// nothing reads a body that says nothing.
func (r *reader) nothing(*api.Tell) {}

// count reads how many there are of something.
func (r *reader) count() int {
	n := take(r, octet.Get16)
	r.need(n >= 0 && n <= most)
	if r.wrong {
		return 0
	}
	return n
}

// bytes reads so many bytes.
func (r *reader) bytes(n int) string {
	return take(r, func(s string, at int) (string, int, api.Errno) {
		return octet.GetBytes(s, at, n)
	})
}

// need tells that a body is wrong, if something does not hold.
func (r *reader) need(holds bool) {
	if !holds {
		r.wrong = true
	}
}

// take gets what stands at the reader's place, and goes behind it.
func take[T any](r *reader, get func(s string, at int) (T, int, api.Errno)) T {
	got, behind, err := get(r.body, r.at)
	if err != api.OK {
		r.wrong = true
		// What is wrong is read no further, so that a loop over it ends.
		behind = len(r.body)
	}
	r.at = behind
	return got
}
