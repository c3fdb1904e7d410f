package btree

import (
	"bytes"
	"slices"
	"weak"

	"vestry/api"
)

// What follows looks at pages that no call answers: those above the leaves, and
// the room of all.

// Wrong tells what is not as the chapter's words for a tree have it, or what is
// kept beside its entries; of a tree that is right nothing.
func Wrong(t *Tree) string {
	l := newLooker()
	depth := l.page(t.root, true)
	switch {
	case l.wrong != "":
		return l.wrong
	case depth != t.Depth():
		return "Depth is not the root's"
	case l.count != t.Count():
		return "Count is not that of the entries"
	}
	return ""
}

// looker goes over a tree, and keeps the first thing that is wrong.
type looker struct {
	wrong string
	count int
	last  []byte
	// Where what was met begins.
	keys    map[*byte]struct{}
	entries map[*api.Entry]struct{}
	pages   map[**page]struct{}
}

func newLooker() looker {
	return looker{keys: map[*byte]struct{}{}, entries: map[*api.Entry]struct{}{}, pages: map[**page]struct{}{}}
}

func (l *looker) hold(right bool, wrong string) {
	if !right && l.wrong == "" {
		l.wrong = wrong
	}
}

// page looks at a page, and at all below it, and tells how deep it is.
func (l *looker) page(p *page, root bool) int {
	l.hold(unmet(l.entries, p.entries) && unmet(l.pages, p.below), "two pages have one list")
	l.hold(!slices.ContainsFunc(spare(p.entries), func(e api.Entry) bool { return e.Key != nil || e.Value != nil }), "entries are kept in spare room")
	l.hold(!slices.ContainsFunc(spare(p.below), func(p *page) bool { return p != nil }), "pages are kept in spare room")
	if len(p.below) == 0 {
		l.leaf(p, root)
		return 1
	}
	l.hold(len(p.entries) == 0, "a page has entries and pages")
	l.hold(api.MinPage <= len(p.below) && len(p.below) <= api.MaxPage, "too few pages, or too many")
	l.hold(same(p.first, p.below[0].first), "a page's first key is not that of its first page")
	depth := l.page(p.below[0], false)
	for _, next := range p.below[1:] {
		l.hold(l.page(next, false) == depth, "the pages below one are not of one depth")
	}
	return depth + 1
}

func (l *looker) leaf(p *page, root bool) {
	least := api.MinPage
	if root {
		least = 0
	}
	l.hold(least <= len(p.entries) && len(p.entries) <= api.MaxPage, "too few entries, or too many")
	for i, e := range p.entries {
		l.hold(i > 0 || same(p.first, e.Key), "a leaf's first key is not that of its first entry")
		l.hold(l.count == 0 || bytes.Compare(l.last, e.Key) < 0, "the keys do not rise")
		l.hold(unmet(l.keys, e.Key) && unmet(l.keys, e.Value), "two texts have one memory")
		l.last = e.Key
		l.count++
	}
	l.hold(len(p.entries) > 0 || p.first == nil, "an empty leaf has a first key")
}

// unmet tells whether a list's array was not met, and meets it.
func unmet[T any](met map[*T]struct{}, l []T) bool {
	if cap(l) == 0 {
		return true
	}
	at := &l[:1][0]
	_, ok := met[at]
	met[at] = struct{}{}
	return !ok
}

// spare is a list's spare room.
func spare[T any](l []T) []T { return l[len(l):cap(l)] }

// same tells whether two keys are one, in one memory.
func same(a, b []byte) bool {
	return bytes.Equal(a, b) && (len(a) == 0 || &a[0] == &b[0])
}

// Apart tells whether two trees share no memory.
func Apart(a, b *Tree) bool {
	l := newLooker()
	// The keys of both together do not rise; all else must be right.
	l.page(a.root, true)
	l.last, l.count = nil, 0
	l.page(b.root, true)
	return a != b && a.root != b.root && l.wrong == ""
}

// Shape is how a tree's entries are shared out: its pages in brackets.
func Shape(t *Tree) string { return string(shape(nil, t.root)) }

func shape(to []byte, p *page) []byte {
	to = append(to, '(')
	for _, e := range p.entries {
		to = append(append(to, e.Key...), ' ')
	}
	for _, next := range p.below {
		to = shape(to, next)
	}
	return append(to, ')')
}

// Traces are where a tree's entries are, by their keys, without keeping them.
func Traces(t *Tree) map[string]weak.Pointer[byte] {
	traces := map[string]weak.Pointer[byte]{}
	for leaf := range t.leaves(nil) {
		for _, e := range leaf.entries {
			traces[string(e.Key)] = weak.Make(&e.Value[0])
		}
	}
	return traces
}
