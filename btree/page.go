package btree

import (
	"bytes"
	"slices"

	"vestry/api"
)

// A page is a leaf, which has entries, or has pages below it.
type page struct {
	entries []api.Entry
	below   []*page
	first   []byte // the first one of all keys in it; of the leaf of an empty tree none
}

// newPage is a page of entries, or one of pages. Its lists have arrays of
// their own: two pages in one array would each keep what is deleted from the
// other.
func newPage(entries []api.Entry, below []*page) *page {
	p := &page{entries: slices.Clone(entries), below: slices.Clone(below)}
	switch {
	case len(below) > 0:
		p.first = below[0].first
	case len(entries) > 0:
		p.first = entries[0].Key
	}
	return p
}

// size is how many entries, or pages, a page has.
func (p *page) size() int { return len(p.entries) + len(p.below) }

// find is the place of a key's entry in a leaf, or the one at which it would
// stand; and whether it is there.
func (p *page) find(key []byte) (int, bool) {
	return slices.BinarySearchFunc(p.entries, key, func(e api.Entry, key []byte) int {
		return bytes.Compare(e.Key, key)
	})
}

// tell tells a page's leaves, up to one behind which no more are wanted; does
// whoever listens want more?
func (p *page) tell(yield func(*page) bool) bool {
	if len(p.below) == 0 {
		return yield(p)
	}
	for _, next := range p.below {
		if !next.tell(yield) {
			return false
		}
	}
	return true
}

// clone is a page in memory of its own, in all depths.
func (p *page) clone() *page {
	var below []*page
	for _, next := range p.below {
		below = append(below, next.clone())
	}
	return newPage(cloneAll(p.entries), below)
}

// mend lets pages that are right stand for the one at a place below, which may
// have one too many, or one too few.
func (p *page) mend(at int) {
	many := 1
	if p.below[at].size() < api.MinPage {
		// Every page below another one has a neighbour to share with.
		at, many = max(at-1, 0), 2
	}
	left, rest := cut(p.below, at)
	those, right := cut(rest, many)
	p.below = append(append(left, shareOut(those...)...), right...)
}

// shareOut are new pages with all that these have: one, or two, if that is too
// much for one.
func shareOut(pages ...*page) []*page {
	var entries []api.Entry
	var below []*page
	for _, p := range pages {
		entries = append(entries, p.entries...)
		below = append(below, p.below...)
	}
	if len(entries) <= api.MaxPage && len(below) <= api.MaxPage {
		return []*page{newPage(entries, below)}
	}
	leftEntries, rightEntries := cut(entries, len(entries)/2)
	leftBelow, rightBelow := cut(below, len(below)/2)
	return []*page{newPage(leftEntries, leftBelow), newPage(rightEntries, rightBelow)}
}

// cut splits a list in two. The left part ends its room where the right one
// begins: what is put behind it goes elsewhere, not over the right one.
func cut[T any](l []T, at int) (left, right []T) {
	return l[:at:at], l[at:]
}

// clone is an entry in memory of its own.
func clone(e api.Entry) api.Entry {
	return api.Entry{Key: bytes.Clone(e.Key), Value: bytes.Clone(e.Value)}
}

// cloneAll are entries in memory of their own.
func cloneAll(l []api.Entry) []api.Entry {
	var all []api.Entry
	for _, e := range l {
		all = append(all, clone(e))
	}
	return all
}
