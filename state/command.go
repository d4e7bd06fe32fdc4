package state

import (
	"slices"
	"strconv"
	"strings"

	"pontoon/api"
	"pontoon/lexer"
	"pontoon/sets"
)

// maxDigits is how many digits a key, or a value, may have in a command.
const maxDigits = 6

// What stands in a form in place of the table, the key and the value: Signs that no command has.
const (
	tableHole = "$1"
	keyHole   = "$2"
	valueHole = "$3"
)

// form is how commands of a kind, with a key or without, are written.
type form struct {
	kind  int
	keyed bool
	text  string
}

// forms is how all commands are written.
var forms = [...]form{
	{api.Get, false, "select * from $1"},
	{api.Get, true, "select * from $1 where k = $2"},
	{api.Put, true, "insert into $1 values ( $2 , $3 )"},
	{api.Add, true, "update $1 set v = v + 1 where k = $2"},
	{api.Del, false, "delete from $1"},
	{api.Del, true, "delete from $1 where k = $2"},
	{api.New, false, "create table $1"},
}

// Command is the command of tokens.
func Command(l []api.Token) (api.Cmd, bool) {
	for _, f := range forms {
		if c, is := f.read(l); is {
			return c, true
		}
	}
	return api.Cmd{}, false
}

// Text is a command's text.
func Text(c api.Cmd) string {
	for _, f := range forms {
		if f.kind != c.Kind || f.keyed != c.Keyed {
			continue
		}
		text := f.fill(c)
		l, _, _ := lexer.Scan(text)
		// Parts that can't be, or have no place in the text, are not read again as they are.
		if again, is := f.read(l); is && again == c {
			return text
		}
	}
	return ""
}

// read is the command of tokens that have a form.
func (f form) read(l []api.Token) (api.Cmd, bool) {
	parts, _, _ := lexer.Scan(f.text)
	if len(l) != len(parts) {
		return api.Cmd{}, false
	}
	c := api.Cmd{Kind: f.kind, Keyed: f.keyed}
	for i, part := range parts {
		if !take(&c, part, l[i]) {
			return api.Cmd{}, false
		}
	}
	return c, true
}

// fill is a form's text with a command's parts.
func (f form) fill(c api.Cmd) string {
	parts := strings.NewReplacer(tableHole, c.Table, keyHole, strconv.Itoa(c.K), valueHole, strconv.Itoa(c.V))
	return parts.Replace(f.text)
}

// take puts what a token says into a command, if it can stand for that part of a form.
func take(c *api.Cmd, part, t api.Token) bool {
	var fits bool
	switch part.Text {
	case tableHole:
		// An answer shares no memory with what was handed in.
		c.Table, fits = strings.Clone(t.Text), isTable(t)
	case keyHole:
		c.K, fits = number(t)
	case valueHole:
		c.V, fits = number(t)
	default:
		fits = t.Kind == part.Kind && t.Text == part.Text
	}
	return fits
}

// isTable tells whether a token can be a command's table.
func isTable(t api.Token) bool {
	if t.Kind != api.Word || len(t.Text) > maxName || !readsItself(t.Text) {
		return false
	}
	return !isKeyWord(t.Text) && !slices.Contains([]string{"insert", "update", "delete", "merge"}, t.Text)
}

// readsItself tells whether a text is read as one Word that is the same.
func readsItself(s string) bool {
	l, _, _ := lexer.Scan(s)
	return len(l) == 1 && l[0].Kind == api.Word && l[0].Text == s
}

// isKeyWord tells whether a Word is a key word: where a name may stand, it is none.
func isKeyWord(s string) bool {
	return len(sets.Reads([]api.Token{{Kind: api.Word, Text: "from"}, {Kind: api.Word, Text: s}})) == 0
}

// number is what a Num of few digits, and nothing else, says.
func number(t api.Token) (int, bool) {
	if t.Kind != api.Num || len(t.Text) > maxDigits || strings.Trim(t.Text, "0123456789") != "" {
		return 0, false
	}
	// No text has a Num without digits, and such a one is no number.
	n, err := strconv.Atoi(t.Text)
	return n, err == nil
}
