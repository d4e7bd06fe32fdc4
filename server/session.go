package server

import (
	"slices"
	"strconv"

	"pontoon/api"
	"pontoon/lexer"
	"pontoon/sets"
	"pontoon/state"
	"pontoon/trans"
)

// noClass is a class that no statement has: a transaction in which it is asked for fails.
const noClass = 99

// failed is the status of a session in a transaction that has failed.
const failed = 'E'

// session is a session of a database.
type session struct {
	d  *trans.Db
	id int
}

// status is the session's status: 0, if there is no such session.
func (s session) status() byte {
	return s.d.Status(s.id)
}

// answer is what the session tells of a statement, but for its status then.
func (s session) answer(sql string) []api.Tell {
	known, err := sets.Parse(sql)
	if err != api.OK {
		return s.refuse(err)
	}
	switch known.Class {
	case api.Read, api.Write, api.Unknown:
		return s.do(known.Class, sql)
	}
	_, err = s.d.Run(s.id, known.Class, api.Cmd{})
	if err != api.OK {
		return []api.Tell{Fault(err)}
	}
	if known.Class == api.Empty {
		return []api.Tell{{Kind: 'I'}}
	}
	return []api.Tell{done(classTag(known.Class))}
}

// do does a statement that has to be a command.
func (s session) do(class int, sql string) []api.Tell {
	l, _, _ := lexer.Scan(sql)
	c, is := state.Command(slices.Concat(lexer.Split(l)...))
	if !is {
		return s.refuse(api.ErrForm)
	}
	rows, err := s.d.Run(s.id, class, c)
	if err != api.OK {
		return []api.Tell{Fault(err)}
	}
	if c.Kind == api.Get {
		return table(rows)
	}
	return []api.Tell{done(commandTag(c.Kind))}
}

// refuse tells an error of what can't even be tried, and lets a transaction fail.
func (s session) refuse(err api.Errno) []api.Tell {
	if s.status() == failed {
		return []api.Tell{Fault(api.ErrFail)}
	}
	s.d.Run(s.id, noClass, api.Cmd{})
	return []api.Tell{Fault(err)}
}

// classTag is what is said of a statement of a class when it is done.
func classTag(class int) string {
	switch class {
	case api.Begin:
		return "BEGIN"
	case api.Commit:
		return "COMMIT"
	case api.Rollback:
		return "ROLLBACK"
	case api.State:
		return "SET"
	}
	return ""
}

// commandTag is what is said of a command without rows when it is done.
func commandTag(kind int) string {
	switch kind {
	case api.Put:
		return "INSERT 0 1"
	case api.Add:
		return "UPDATE"
	case api.Del:
		return "DELETE"
	case api.New:
		return "CREATE TABLE"
	}
	return ""
}

// done tells that something is done.
func done(tag string) api.Tell {
	return api.Tell{Kind: 'C', Text: tag}
}

// table tells rows, with their columns ahead of them, and how many there are behind.
func table(rows []api.Row) []api.Tell {
	l := []api.Tell{{Kind: 'T', Keys: []string{"k", "v"}}}
	for _, r := range rows {
		vals := []string{strconv.Itoa(r.K), strconv.Itoa(r.V)}
		l = append(l, api.Tell{Kind: 'D', Vals: vals, Null: make([]bool, len(vals))})
	}
	return append(l, done("SELECT "+strconv.Itoa(len(rows))))
}
