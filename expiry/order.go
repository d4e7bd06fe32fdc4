package expiry

import (
	"slices"
	"sort"
)

// entry is a key with its deadline.
type entry struct {
	key string
	at  int
	set int // which of all sets gave it the deadline
}

// blockMost is how many entries a block has at most.
const blockMost = 512

// order is entries by rising deadlines, of these by which was set first. They lie in blocks, so that to let one in, or out, moves few others. There is one block at least; where there are several, none is empty.
type order [][]entry

// empty is an order without entries.
func empty() order {
	return order{nil}
}

// first is where the first entry stands that is as asked: its block, and its place there; behind the last entry, if none is. Those behind one that is as asked must be so, too.
func (o order) first(asked func(e entry) bool) (int, int) {
	// The last block isn't asked: what is in no other belongs there.
	b := sort.Search(len(o)-1, func(i int) bool { return asked(o[i][len(o[i])-1]) })
	place := sort.Search(len(o[b]), func(i int) bool { return asked(o[b][i]) })
	return b, place
}

// add lets in an entry that was set later than all others.
func (o *order) add(e entry) {
	b, place := o.first(func(other entry) bool { return other.at > e.at })
	block := slices.Insert((*o)[b], place, e)
	(*o)[b] = block
	if len(block) > blockMost {
		*o = slices.Insert(*o, b+1, slices.Clone(block[blockMost/2:]))
		(*o)[b] = slices.Delete(block, blockMost/2, len(block))
	}
}

// remove lets out an entry that is there.
func (o *order) remove(e entry) {
	b, place := o.first(func(other entry) bool {
		return other.at > e.at || other.at == e.at && other.set >= e.set
	})
	(*o)[b] = slices.Delete((*o)[b], place, place+1)
	if len((*o)[b]) == 0 && len(*o) > 1 {
		*o = slices.Delete(*o, b, b+1)
	}
}

// take lets out all entries whose deadline is no later than now: their keys.
func (o *order) take(now int) []string {
	b, place := o.first(func(e entry) bool { return e.at > now })
	due := append(slices.Clone((*o)[:b]), (*o)[b][:place])
	gone := due.keys()
	// If nothing stays of this block, it was the last one, and is the only one then.
	(*o)[b] = slices.Delete((*o)[b], 0, place)
	*o = slices.Delete(*o, 0, b)
	return gone
}

// keys is all keys.
func (o order) keys() []string {
	var keys []string
	for _, block := range o {
		for _, e := range block {
			keys = append(keys, e.key)
		}
	}
	return keys
}

// copied is an order of its own, with the same entries.
func (o order) copied() order {
	c := make(order, len(o))
	for i, block := range o {
		c[i] = slices.Clone(block)
	}
	return c
}
