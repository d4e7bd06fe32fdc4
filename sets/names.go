package sets

import (
	"slices"
	"strings"

	"pontoon/api"
)

// namesFrom tells the names from a place on, each with its own place, as long as tell wants more.
func namesFrom(l []api.Token, at int, tell func(name string, at int) bool) {
	for {
		if isWord(l, at, "only", "table") {
			at++
		}
		size := nameSize(l, at)
		if size == 0 || !tell(nameText(l[at:at+size]), at) {
			return
		}
		at = behindAlias(l, at+size)
		if !isSign(l, at, ",") {
			return
		}
		at++
	}
}

// nameSize is how many tokens the name at a place takes: 0, if none stands there.
func nameSize(l []api.Token, at int) int {
	if !isName(l, at) {
		return 0
	}
	if isSign(l, at+1, ".") && isName(l, at+2) {
		return 3
	}
	return 1
}

// nameText is the name that the tokens of one are.
func nameText(l []api.Token) string {
	if len(l) == 1 {
		// An answer shares no memory with what was handed in.
		return strings.Clone(l[0].Text)
	}
	return l[0].Text + "." + l[2].Text
}

// behindAlias is the place behind an alias, with as or without it, or the place itself.
func behindAlias(l []api.Token, at int) int {
	if isWord(l, at, "as") {
		at++
	}
	if nameSize(l, at) == 1 {
		at++
	}
	return at
}

// isName tells whether a token may be a name, or a part of one.
func isName(l []api.Token, at int) bool {
	if at >= len(l) {
		return false
	}
	return l[at].Kind == api.Quoted || l[at].Kind == api.Word && !isKeyWord(l[at].Text)
}

// isKeyWord tells whether a Word of such a text can't be a name.
func isKeyWord(s string) bool {
	switch s {
	case "select", "from", "where", "join", "on", "using", "group", "order", "having", "limit", "offset",
		"union", "except", "intersect", "as", "and", "or", "not", "in", "is", "null", "values", "set", "into",
		"inner", "left", "right", "full", "outer", "cross", "natural", "lateral", "only", "returning", "window",
		"for", "fetch", "when", "then", "with", "table":
		return true
	}
	return false
}

// isSign tells whether a token is some Sign.
func isSign(l []api.Token, at int, sign string) bool {
	return at < len(l) && l[at].Kind == api.Sign && l[at].Text == sign
}

// isWord tells whether a token is one of some Words; there is none ahead of the first one.
func isWord(l []api.Token, at int, words ...string) bool {
	return at >= 0 && at < len(l) && l[at].Kind == api.Word && slices.Contains(words, l[at].Text)
}

// rising is names in rising order, each once; the list handed in is sorted.
func rising(names []string) []string {
	left := map[string]struct{}{}
	for _, name := range names {
		left[name] = struct{}{}
	}
	slices.Sort(names)
	var told []string
	for _, name := range names {
		if _, waits := left[name]; waits {
			told = append(told, name)
			delete(left, name)
		}
	}
	return told
}
