package vers

import (
	"maps"
	"strings"
)

// dirty is who has which names dirty. It stands there by clients and by names, so that neither to be clean nor to ask takes longer where others have many.
type dirty struct {
	names  map[int]map[string]struct{} // by their clients; one that is not there has none
	counts map[string]int              // how many clients have a name dirty; it is not there, if none has
}

// nobody is where nobody has any name dirty.
func nobody() dirty {
	return dirty{map[int]map[string]struct{}{}, map[string]int{}}
}

// add makes a name dirty by a client, too.
func (d dirty) add(client int, name string) {
	own, is := d.names[client]
	if !is {
		own = map[string]struct{}{}
		d.names[client] = own
	}
	if _, is := own[name]; is {
		return
	}
	// What is kept shares no memory with what was handed in.
	name = strings.Clone(name)
	own[name] = struct{}{}
	d.counts[name]++
}

// drop makes all names of a client clean.
func (d dirty) drop(client int) {
	for name := range d.names[client] {
		d.counts[name]--
		if d.counts[name] == 0 {
			delete(d.counts, name)
		}
	}
	delete(d.names, client)
}

// has tells whether any client has a name dirty.
func (d dirty) has(name string) bool {
	return d.counts[name] > 0
}

// copied is one of its own, in which the same names are dirty.
func (d dirty) copied() dirty {
	c := dirty{map[int]map[string]struct{}{}, maps.Clone(d.counts)}
	for client, own := range d.names {
		c.names[client] = maps.Clone(own)
	}
	return c
}
