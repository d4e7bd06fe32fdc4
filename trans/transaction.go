package trans

import (
	"pontoon/api"
	"pontoon/state"
)

// What a session's status can be.
const (
	idle   = 'I'
	inside = 'T' // in a transaction
	failed = 'E' // in one that has failed
)

// transaction is what a session has that is not idle.
type transaction struct {
	status byte
	own    map[string]api.Table // the tables that it wrote, by their names
}

// own is a session's own tables.
func (d *Db) own(id int) map[string]api.Table {
	if t, is := d.open[id]; is {
		return t.own
	}
	return nil
}

// begin begins a session's transaction.
func (d *Db) begin(id int) api.Errno {
	if d.Status(id) != idle {
		return api.ErrState
	}
	d.open[id] = &transaction{inside, map[string]api.Table{}}
	return api.OK
}

// commit ends a session's transaction: all see what it wrote, if it has not failed, and there is room.
func (d *Db) commit(id int) api.Errno {
	status, s := d.Status(id), d.Sees(id)
	if err := d.rollback(id); err != api.OK {
		return err
	}
	if status == failed {
		return api.ErrFail
	}
	// Others may have made tables since this one did.
	if len(s) > api.MaxTables {
		return api.ErrFull
	}
	d.committed = s
	return api.OK
}

// rollback ends a session's transaction: nobody sees what it wrote.
func (d *Db) rollback(id int) api.Errno {
	if d.Status(id) == idle {
		return api.ErrState
	}
	delete(d.open, id)
	return api.OK
}

// fail makes a session's transaction fail, if it is in one.
func (d *Db) fail(id int) {
	if t, is := d.open[id]; is {
		t.status = failed
	}
}

// do does a command for a session that has not failed.
func (d *Db) do(id int, c api.Cmd) ([]api.Row, api.Errno) {
	if state.Text(c) == "" {
		return nil, api.ErrArg
	}
	s, rows, err := state.Do(d.Sees(id), c)
	if err != api.OK {
		d.fail(id)
		return nil, err
	}
	if c.Kind != api.Get {
		d.write(id, s[state.Find(s, c.Table)])
	}
	return rows, api.OK
}

// write makes a table a session's own; an idle one's is committed.
func (d *Db) write(id int, table api.Table) {
	if t, is := d.open[id]; is {
		t.own[table.Name] = table
		return
	}
	d.committed = with(d.committed, table)
}
