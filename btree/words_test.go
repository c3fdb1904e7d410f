package btree_test

import (
	"bytes"
	"maps"
	"slices"
	"strings"
	"testing"

	"vestry/api"
	"vestry/btree"
)

// model is what a tree should have: values by their keys.
type model map[string]string

func (m model) keys() []string { return slices.Sorted(maps.Keys(m)) }

// in are the entries of a span, by the chapter's words.
func (m model) in(s api.Span) []api.Entry {
	var l []api.Entry
	for _, k := range m.keys() {
		if k >= string(s.From) && (!s.End || k < string(s.To)) {
			l = append(l, api.Entry{Key: []byte(k), Value: []byte(m[k])})
		}
	}
	return l
}

func alike(a, b api.Entry) bool {
	return bytes.Equal(a.Key, b.Key) && bytes.Equal(a.Value, b.Value)
}

func from(key string) api.Span { return api.Span{From: []byte(key)} }

func within(key, end string) api.Span {
	return api.Span{From: []byte(key), To: []byte(end), End: true}
}

// alphabet are keys, by rising ones.
func alphabet(n int) []string { return strings.Split("abcdefghijklmnopqrstuvwxyz"[:n], "") }

// treeOf has these keys, put in this order, each with itself as its value.
func treeOf(t *testing.T, keys ...string) (*btree.Tree, model) {
	t.Helper()
	x, m := btree.New(), model{}
	for _, k := range keys {
		put(t, x, m, k, k)
	}
	return x, m
}

// put puts an entry into a tree and its model, and holds what is told of it.
func put(t *testing.T, x *btree.Tree, m model, key, value string) {
	t.Helper()
	_, want := m[key]
	if was := x.Put([]byte(key), []byte(value)); was != want {
		t.Fatalf("Put(%.40q) into %d entries: %v", key, len(m), was)
	}
	m[key] = value
}

// take takes a key's entry out of both.
func take(t *testing.T, x *btree.Tree, m model, key string) {
	t.Helper()
	_, want := m[key]
	if was := x.Delete([]byte(key)); was != want {
		t.Fatalf("Delete(%.40q) out of %d entries: %v", key, len(m), was)
	}
	delete(m, key)
}

func wantGet(t *testing.T, x *btree.Tree, m model, key string) {
	t.Helper()
	want, there := m[key]
	v, ok := x.Get([]byte(key))
	if ok != there || string(v) != want || !ok && v != nil {
		t.Fatalf("Get(%.40q): %.40q, %v, not %.40q, %v", key, v, ok, want, there)
	}
}

func wantRange(t *testing.T, x *btree.Tree, m model, s api.Span) {
	t.Helper()
	if l, want := x.Range(s), m.in(s); !slices.EqualFunc(l, want, alike) {
		t.Fatalf("Range(%q, %q, %v): %d entries %.200q, not %d %.200q", s.From, s.To, s.End, len(l), l, len(want), want)
	}
}

// wantPages holds that the leaves have all entries, in order, and that so many
// of such sizes can be the leaves of a tree of this depth.
func wantPages(t *testing.T, x *btree.Tree, m model) {
	t.Helper()
	pages, d := x.Pages(), x.Depth()
	if l := slices.Concat(pages...); !slices.EqualFunc(l, m.in(api.Span{}), alike) {
		t.Fatalf("Pages: %.200q, not %.200q", pages, m.keys())
	}
	least := api.MinPage
	if len(pages) == 1 {
		least = 0
	}
	for _, p := range pages {
		if len(p) < least || len(p) > api.MaxPage {
			t.Fatalf("one of %d leaves has %d entries", len(pages), len(p))
		}
	}
	if d < 1 || len(pages) < power(api.MinPage, d-1) || len(pages) > power(api.MaxPage, d-1) {
		t.Fatalf("%d leaves at the depth %d", len(pages), d)
	}
}

// wantDepth is P14.6.
func wantDepth(t *testing.T, x *btree.Tree) {
	t.Helper()
	n, d := x.Count(), x.Depth()
	if d < 1 || d > 1 && n < power(2, d) || n > power(4, d) {
		t.Fatalf("%d entries at the depth %d", n, d)
	}
}

func power(of, d int) int {
	n := 1
	for range d {
		n *= of
	}
	return n
}

// wantShape holds the tree's pages, Count and Depth against the model.
func wantShape(t *testing.T, x *btree.Tree, m model) {
	t.Helper()
	if wrong := btree.Wrong(x); wrong != "" {
		t.Fatalf("%s: %.200q", wrong, x.Pages())
	}
	if n := x.Count(); n != len(m) {
		t.Fatalf("Count: %d, not %d", n, len(m))
	}
	wantPages(t, x, m)
	wantDepth(t, x)
}

// wantTree holds all that a tree tells against a model, of its keys and of others.
func wantTree(t *testing.T, x *btree.Tree, m model, others ...string) {
	t.Helper()
	wantShape(t, x, m)
	wantRange(t, x, m, api.Span{})
	for _, k := range append(m.keys(), others...) {
		wantGet(t, x, m, k)
		wantRange(t, x, m, from(k))
		wantRange(t, x, m, within("", k))
	}
}
