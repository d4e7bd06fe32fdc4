package trans

import (
	"maps"
	"math/rand"
	"slices"
	"strconv"
	"testing"

	"pontoon/api"
	"pontoon/state"
)

// model is a database, as the laws are asked of it.
type model struct {
	committed []api.Table
	status    map[int]byte // 0 of idle ones
	own       map[int][]api.Table
}

// seen is what a session sees.
func (m *model) seen(id int) []api.Table {
	byName := map[string][]api.Row{}
	for _, table := range slices.Concat(m.committed, m.own[id]) {
		byName[table.Name] = table.Rows
	}
	var s []api.Table
	for _, name := range slices.Sorted(maps.Keys(byName)) {
		s = append(s, api.Table{Name: name, Rows: byName[name]})
	}
	return s
}

// end makes a session idle.
func (m *model) end(id int) {
	delete(m.status, id)
	delete(m.own, id)
}

// run is what a session is told.
func (m *model) run(id, class int, c api.Cmd) ([]api.Row, api.Errno) {
	status := m.status[id]
	switch {
	case class == api.Begin && status == 0:
		m.status[id] = 'T'
		return nil, api.OK
	case class == api.Begin, status == 0 && (class == api.Commit || class == api.Rollback):
		return nil, api.ErrState
	case class == api.Commit && status == 'T':
		s := m.seen(id)
		m.end(id)
		if len(s) > api.MaxTables {
			return nil, api.ErrFull
		}
		m.committed = s
		return nil, api.OK
	case class == api.Rollback:
		m.end(id)
		return nil, api.OK
	case class == api.Commit:
		m.end(id)
		return nil, api.ErrFail
	case status == 'E':
		return nil, api.ErrFail
	case class == api.Empty, class == api.State:
		return nil, api.OK
	}
	return m.do(id, class, c)
}

// do is what a session that has not failed is told.
func (m *model) do(id, class int, c api.Cmd) ([]api.Row, api.Errno) {
	inside := m.status[id] == 'T'
	err := api.ErrKind
	var rows []api.Row
	if class == api.Read || class == api.Write || class == api.Unknown {
		if state.Text(c) == "" {
			return nil, api.ErrArg
		}
		var s []api.Table
		s, rows, err = state.Do(m.seen(id), c)
		if err == api.OK && c.Kind != api.Get {
			if !inside {
				m.committed = s
			} else {
				m.own[id] = slices.DeleteFunc(m.own[id], func(table api.Table) bool { return table.Name == c.Table })
				m.own[id] = append(m.own[id], s[state.Find(s, c.Table)])
			}
		}
	}
	if err != api.OK && inside {
		m.status[id] = 'E'
	}
	return rows, err
}

// anyCmd is a command, mostly with a text, on few tables and keys.
func anyCmd(r *rand.Rand) api.Cmd {
	table := "t" + strconv.Itoa(100+r.Intn(15))
	switch k := r.Intn(4); r.Intn(12) {
	case 0:
		return get(table)
	case 1:
		return getOf(table, k)
	case 2, 3:
		// Mostly ones that are not there yet, so that there come to be more than MaxTables.
		return create("t" + strconv.Itoa(110+r.Intn(20)))
	case 4, 5:
		return add(table, k)
	case 6:
		return delOf(table, k)
	case 7:
		if r.Intn(3) == 0 {
			return del(table)
		}
	case 8:
		if r.Intn(3) == 0 {
			return api.Cmd{Kind: r.Intn(8) - 1, Table: table, K: k, V: r.Intn(2), Keyed: r.Intn(2) == 0}
		}
	}
	return put(table, r.Intn(4), r.Intn(2)+999998*r.Intn(2))
}

// anyClass is a class, mostly one that does a command.
func anyClass(r *rand.Rand) int {
	switch n := r.Intn(40); {
	case n < 6:
		return api.Begin
	case n < 9:
		return api.Commit
	case n == 9:
		return api.Rollback
	case n == 10:
		return r.Intn(12) - 1
	case n < 20:
		return api.Read
	case n < 35:
		return api.Write
	}
	return api.Unknown
}

// agrees asks whether a database tells what its model does.
func (m *model) agrees(t *testing.T, d *Db, ids int) {
	t.Helper()
	if got := d.Committed(); show(got) != show(m.committed) || !state.Right(got) {
		t.Fatalf("committed is\n%swant\n%s", show(got), show(m.committed))
	}
	for id := range ids {
		status, names := byte('I'), []string(nil)
		if m.status[id] != 0 {
			status = m.status[id]
		}
		for _, table := range m.own[id] {
			names = append(names, table.Name)
		}
		slices.Sort(names)
		if d.Status(id) != status || show(d.Sees(id)) != show(m.seen(id)) || !slices.Equal(d.Written(id), names) {
			t.Fatalf("%d is %q, wrote %q and sees\n%swant %q, %q and\n%s", id, d.Status(id), d.Written(id), show(d.Sees(id)), status, names, show(m.seen(id)))
		}
	}
}

// P9.2 to P9.5: what random sessions are told, against a model
func TestLaws(t *testing.T) {
	r := rand.New(rand.NewSource(95))
	type answer struct {
		class  int
		err    api.Errno
		inside bool
	}
	const ids = 6
	told := map[answer]int{}
	crowded := 0
	for range 300 {
		d, err := New(many(11 + r.Intn(5)))
		if err != api.OK {
			t.Fatal(err)
		}
		m := &model{d.Committed(), map[int]byte{}, map[int][]api.Table{}}
		for range 100 {
			id, class, c := r.Intn(ids), anyClass(r), anyCmd(r)
			before, status := everything(d), d.Status(id)
			others := d.Committed()
			var left *Db
			if r.Intn(10) == 0 {
				left, d = d, d.Copy()
			}
			if r.Intn(50) == 0 {
				d.End(id)
				m.end(id)
			} else {
				rows, e := d.Run(id, class, c)
				want, err := m.run(id, class, c)
				if !slices.Equal(rows, want) || e != err {
					t.Fatalf("%d asks for %d, %v: %v, %d, want %v, %d", id, class, c, rows, e, want, err)
				}
				told[answer{class, e, status != 'I'}]++
				// Outside of its transaction nobody sees what a session has not committed.
				if status != 'I' && (class != api.Commit || e != api.OK) && show(d.Committed()) != show(others) {
					t.Fatalf("%d asked for %d, %v: others see\n%s", id, class, c, show(d.Committed()))
				}
			}
			m.agrees(t, d, ids)
			if len(d.Sees(id)) > api.MaxTables {
				crowded++
			}
			if left != nil && everything(left) != before {
				t.Fatalf("what was copied became\n%swas\n%s", everything(left), before)
			}
		}
	}
	for _, a := range []answer{
		{api.Begin, api.OK, false}, {api.Begin, api.ErrState, true}, {api.Commit, api.OK, true}, {api.Commit, api.ErrFail, true}, {api.Commit, api.ErrFull, true}, {api.Commit, api.ErrState, false}, {api.Rollback, api.OK, true}, {api.Rollback, api.ErrState, false},
		{api.Write, api.OK, false}, {api.Write, api.OK, true}, {api.Write, api.ErrNone, true}, {api.Write, api.ErrTwice, true}, {api.Write, api.ErrBig, true}, {api.Write, api.ErrFull, true}, {api.Write, api.ErrFail, true}, {api.Write, api.ErrArg, true}, {api.Write, api.ErrArg, false},
		{api.Volatile, api.ErrKind, false}, {api.Volatile, api.ErrKind, true}, {api.Empty, api.OK, true}, {api.State, api.OK, false},
	} {
		if told[a] < 3 {
			t.Errorf("only %d of %v", told[a], a)
		}
	}
	if crowded < 20 {
		t.Errorf("only %d saw more than MaxTables", crowded)
	}
}
