package slru

// entry is a key with its size, which is at least 1, so that a zero one is none.
type entry struct {
	key  string
	size int
}

// place is where an entry stands: in a segment, between the next newer one and the next older one.
type place struct {
	entry   entry
	segment int
	newer   *place
	older   *place
}

// segment is entries in an order.
type segment struct {
	ends  *place // has no entry: it is newer than the newest one, and older than the last one, so that all lie in a ring
	bytes int    // all sizes
}

// laid is a segment without entries.
func laid() segment {
	ends := &place{}
	ends.newer, ends.older = ends, ends
	return segment{ends: ends}
}

// newest is where the newest entry stands; a place without one, if there is none.
func (g *segment) newest() *place {
	return g.ends.older
}

// last is where the last entry stands; a place without one, if there is none.
func (g *segment) last() *place {
	return g.ends.newer
}

// enter makes an entry, which stands nowhere, the newest one.
func (g *segment) enter(p *place) {
	p.newer, p.older = g.ends, g.newest()
	p.newer.older, p.older.newer = p, p
	g.bytes += p.entry.size
}

// leave takes an entry out.
func (g *segment) leave(p *place) {
	p.newer.older, p.older.newer = p.older, p.newer
	g.bytes -= p.entry.size
}
