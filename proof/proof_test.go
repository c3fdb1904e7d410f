package proof_test

import (
	"bytes"
	"crypto/sha256"
	"encoding/binary"
	"maps"
	"math/rand"
	"slices"
	"strings"
	"testing"

	"vestry/api"
	"vestry/proof"
	"vestry/trie"
)

// What follows up to bytesOf are the chapter's words, worked out apart from the
// package and from the layers below it. They take proofs that may not be, too,
// so that such a one can be held against its own root.

// num is a number in bytes.
func num(n int) string { return string(binary.BigEndian.AppendUint64(nil, uint64(n))) }

// rowOf is a row of blobs.
func rowOf(blobs ...string) string {
	row := binary.BigEndian.AppendUint32(nil, uint32(len(blobs)))
	for _, b := range blobs {
		row = binary.BigEndian.AppendUint32(row, uint32(len(b)))
		row = append(row, b...)
	}
	return string(row)
}

func sumOf(text string) api.Sum { return api.Sum(sha256.Sum256([]byte(text))) }

// bitOf is one of a key's bits.
func bitOf(key string, i int) bool {
	var all strings.Builder
	for at := range len(key) {
		all.WriteByte('1')
		for shift := 7; shift >= 0; shift-- {
			all.WriteByte('0' + key[at]>>shift&1)
		}
	}
	return i >= 0 && i < all.Len() && all.String()[i] == '1'
}

// textsOf are a proof's texts.
func textsOf(p api.Proof) []string {
	if p.None {
		return []string{rowOf("none")}
	}
	texts := []string{rowOf("leaf", string(p.Entry.Key), string(p.Entry.Value))}
	for i := len(p.Steps) - 1; i >= 0; i-- {
		near := sumOf(texts[len(texts)-1])
		left, right := near, p.Steps[i].Other
		if p.Steps[i].Right {
			left, right = p.Steps[i].Other, near
		}
		texts = append(texts, rowOf("fork", num(p.Steps[i].Bit), string(left[:]), string(right[:])))
	}
	return texts
}

// rootOf is the root that a proof has.
func rootOf(p api.Proof) api.Sum {
	texts := textsOf(p)
	return sumOf(texts[len(texts)-1])
}

// stepBlob is a step's blob.
func stepBlob(s api.Step) string {
	side := "\x00"
	if s.Right {
		side = "\x01"
	}
	return num(s.Bit) + side + string(s.Other[:])
}

// bytesOf is a proof in bytes.
func bytesOf(p api.Proof) string {
	if p.None {
		return rowOf(num(1))
	}
	blobs := []string{num(0), string(p.Entry.Key), string(p.Entry.Value)}
	for _, s := range p.Steps {
		blobs = append(blobs, stepBlob(s))
	}
	return rowOf(blobs...)
}

// entryTexts are the texts that make the root of these keys' entries, the root's own last.
func entryTexts(m map[string]string, keys []string) []string {
	switch len(keys) {
	case 0:
		return []string{rowOf("none")}
	case 1:
		return []string{rowOf("leaf", keys[0], m[keys[0]])}
	}
	i := 0
	for !slices.ContainsFunc(keys, func(k string) bool { return bitOf(k, i) != bitOf(keys[0], i) }) {
		i++
	}
	var zeros, ones []string
	for _, k := range keys {
		if bitOf(k, i) {
			ones = append(ones, k)
		} else {
			zeros = append(zeros, k)
		}
	}
	left, right := entryTexts(m, zeros), entryTexts(m, ones)
	l, r := sumOf(left[len(left)-1]), sumOf(right[len(right)-1])
	return append(append(left, right...), rowOf("fork", num(i), string(l[:]), string(r[:])))
}

func keysOf(m map[string]string) []string { return slices.Sorted(maps.Keys(m)) }

// alike are entries of these keys, each with another value.
func alike(keys ...string) map[string]string {
	m := map[string]string{}
	for _, k := range keys {
		m[k] = "value of " + k
	}
	return m
}

func treeOf(t *testing.T, m map[string]string) *trie.Tree {
	t.Helper()
	x := trie.New()
	for _, k := range keysOf(m) {
		if e := x.Put([]byte(k), []byte(m[k])); e != api.OK {
			t.Fatalf("Put(%q): %v", k, e)
		}
	}
	return x
}

// proofOf has an entry, and steps where the key's bits lead.
func proofOf(key, value string, places ...int) api.Proof {
	p := api.Proof{Entry: api.Entry{Key: []byte(key), Value: []byte(value)}}
	for n, i := range places {
		p.Steps = append(p.Steps, api.Step{Bit: i, Right: bitOf(key, i), Other: sumOf(num(n))})
	}
	return p
}

// copyOf is a proof in memory of its own.
func copyOf(p api.Proof) api.Proof {
	return api.Proof{
		None:  p.None,
		Entry: api.Entry{Key: bytes.Clone(p.Entry.Key), Value: bytes.Clone(p.Entry.Value)},
		Steps: slices.Clone(p.Steps),
	}
}

func same(p, q api.Proof) bool {
	return p.None == q.None && bytes.Equal(p.Entry.Key, q.Entry.Key) &&
		bytes.Equal(p.Entry.Value, q.Entry.Value) && slices.Equal(p.Steps, q.Steps)
}

func isZero(p api.Proof) bool {
	return !p.None && p.Entry.Key == nil && p.Entry.Value == nil && p.Steps == nil
}

var (
	longKey   = strings.Repeat("k", api.MaxKey)
	longValue = strings.Repeat("v", api.MaxValue)
)

// allPlaces are 0 up to the one at a key's end.
func allPlaces(key string) []int {
	var l []int
	for i := range 9*len(key) + 1 {
		l = append(l, i)
	}
	return l
}

// wantCheck holds Check's answer against a value, or against that there is none.
func wantCheck(t *testing.T, root api.Sum, key string, p api.Proof, value string, is bool) {
	t.Helper()
	if v, ok, e := proof.Check(root, []byte(key), p); e != api.OK || ok != is || string(v) != value || !is && v != nil {
		t.Errorf("Check of %q: %q, %v, %v, not %q, %v", key, v, ok, e, value, is)
	}
}

func wantNoCheck(t *testing.T, root api.Sum, key string, p api.Proof) {
	t.Helper()
	if v, ok, e := proof.Check(root, []byte(key), p); e != api.ErrProof || ok || v != nil {
		t.Errorf("Check of %q: %q, %v, %v, not ErrProof", key, v, ok, e)
	}
}

// wantBeing holds all that is told of a proof that may be against the chapter's words.
func wantBeing(t *testing.T, p api.Proof) {
	t.Helper()
	texts := proof.Texts(p)
	if !slices.EqualFunc(texts, textsOf(p), func(a []byte, b string) bool { return string(a) == b }) {
		t.Errorf("Texts: %q, not %q", texts, textsOf(p))
	}
	b, e := proof.Bytes(p)
	if e != api.OK || string(b) != bytesOf(p) {
		t.Errorf("Bytes: %q, %v, not %q", b, e, bytesOf(p))
	}
	if q, e := proof.Parse([]byte(bytesOf(p))); e != api.OK || !same(p, q) {
		t.Errorf("Parse: %+v, %v, not %+v", q, e, p)
	}
	wantCheck(t, rootOf(p), string(p.Entry.Key), p, string(p.Entry.Value), !p.None)
	root := rootOf(p)
	root[31] ^= 1
	wantNoCheck(t, root, string(p.Entry.Key), p)
}

// wantNotBeing sees to it that a proof is refused everywhere, against its own root too.
func wantNotBeing(t *testing.T, name string, p api.Proof) {
	t.Helper()
	if texts := proof.Texts(p); texts != nil {
		t.Errorf("%s: it has %d texts", name, len(texts))
	}
	if b, e := proof.Bytes(p); e != api.ErrProof || b != nil {
		t.Errorf("%s: Bytes: %q, %v", name, b, e)
	}
	if q, e := proof.Parse([]byte(bytesOf(p))); bytesOf(p) != rowOf(num(1)) && (e != api.ErrForm || !isZero(q)) {
		t.Errorf("%s: Parse: %+v, %v", name, q, e)
	}
	for _, key := range []string{string(p.Entry.Key), "", "a"} {
		if v, is, e := proof.Check(rootOf(p), []byte(key), p); e != api.ErrProof || is || v != nil {
			t.Errorf("%s: Check of %q: %q, %v, %v", name, key, v, is, e)
		}
	}
}

func TestExampleOfNone(t *testing.T) { // P5.2
	none := sumOf(rowOf("none"))
	for _, p := range []api.Proof{{None: true}, {None: true, Entry: api.Entry{Key: []byte{}, Value: []byte{}}, Steps: []api.Step{}}} {
		for _, k := range []string{"a", "", "\x00", longKey, longKey + "k"} {
			wantCheck(t, none, k, p, "", false)
			wantNoCheck(t, api.Sum{}, k, p)
		}
	}
	if trie.New().Root() != none {
		t.Error("the root of none")
	}
}

func TestExampleOfTwo(t *testing.T) { // P5.2
	x := treeOf(t, map[string]string{"a": "1", "b": "2"})
	made := func(key string) api.Proof { return proof.Make(x, []byte(key)) }
	wantCheck(t, x.Root(), "a", made("a"), "1", true)
	wantCheck(t, x.Root(), "b", made("b"), "2", true)
	wantCheck(t, x.Root(), "c", made("c"), "", false)
	wantNoCheck(t, x.Root(), "a", made("b"))
	wantNoCheck(t, x.Root(), "b", made("a"))
	wantNoCheck(t, x.Root(), "a", api.Proof{None: true})
	wantNoCheck(t, trie.New().Root(), "a", made("a"))
}

func TestMakeIsThePath(t *testing.T) { // P5.1
	for _, m := range []map[string]string{nil, alike("a"), alike("a", "b"), alike("", "a", "ab", "abc", "b", longKey)} {
		x := treeOf(t, m)
		for _, k := range append(keysOf(m), "", "aa", "c", "\xff", longKey[:9], longKey+"k") {
			p, q := proof.Make(x, []byte(k)), x.Path([]byte(k))
			if !same(p, q) {
				t.Errorf("Make(%q): %+v, not %+v", k, p, q)
			}
			if p.None != (len(m) == 0) {
				t.Errorf("Make(%q) of %d entries: %v", k, len(m), p.None)
			}
		}
		if p := proof.Make(x, nil); !same(p, proof.Make(x, []byte{})) {
			t.Errorf("Make of nil: %+v", p)
		}
	}
}

func TestTexts(t *testing.T) { // P5.1
	other := api.Sum{1, 2, 3}
	p := api.Proof{Entry: api.Entry{Key: []byte("a"), Value: []byte("1")}, Steps: []api.Step{{Bit: 0, Right: true, Other: other}, {Bit: 7, Other: api.Sum{4}}}}
	leaf := rowOf("leaf", "a", "1")
	near := sumOf(leaf)
	fork := rowOf("fork", num(7), string(near[:]), "\x04"+strings.Repeat("\x00", 31))
	above := sumOf(fork)
	want := []string{leaf, fork, rowOf("fork", num(0), string(other[:]), string(above[:]))}
	texts := proof.Texts(p)
	if !slices.EqualFunc(texts, want, func(a []byte, b string) bool { return string(a) == b }) {
		t.Errorf("Texts: %q, not %q", texts, want)
	}
	if l := proof.Texts(api.Proof{None: true}); len(l) != 1 || string(l[0]) != "\x00\x00\x00\x01\x00\x00\x00\x04none" {
		t.Errorf("Texts of none: %q", l)
	}
	if l := proof.Texts(proofOf("", "")); len(l) != 1 || string(l[0]) != rowOf("leaf", "", "") {
		t.Errorf("Texts of one entry: %q", l)
	}
}

func TestProofsThatMayBe(t *testing.T) { // P5.1 to P5.3
	for _, p := range []api.Proof{
		{None: true}, {}, {Entry: api.Entry{Key: []byte{}, Value: []byte{}}, Steps: []api.Step{}},
		proofOf("", ""), proofOf("", "1"), proofOf("", "", 0), proofOf("a", "", 0), proofOf("a", "1", 9), proofOf("a", "1", 8, 9),
		proofOf("\x00", "1", allPlaces("\x00")...), proofOf("\xff", "1", allPlaces("\xff")...), proofOf("ab", "2", 0, 1, 9, 10, 17, 18),
		proofOf(longKey, longValue), proofOf(longKey, longValue, allPlaces(longKey)...), proofOf(longKey, "", 9*api.MaxKey),
		proofOf("\x00\x01", "\x00"), proofOf("a", longValue, 3),
	} {
		wantBeing(t, p)
	}
}

func TestNoneWithMore(t *testing.T) { // P5.1 to P5.3
	step := []api.Step{{Bit: 0, Right: true}}
	for name, p := range map[string]api.Proof{
		"a key":    {None: true, Entry: api.Entry{Key: []byte("a")}},
		"a value":  {None: true, Entry: api.Entry{Value: []byte("1")}},
		"an entry": {None: true, Entry: api.Entry{Key: []byte("a"), Value: []byte("1")}},
		"a step":   {None: true, Steps: step},
		"no step":  {None: true, Steps: []api.Step{{}}},
		"all":      {None: true, Entry: api.Entry{Key: []byte("a"), Value: []byte("1")}, Steps: step},
	} {
		wantNotBeing(t, "none, with "+name, p)
	}
}

func TestLongEntries(t *testing.T) { // P5.1 to P5.3
	wantNotBeing(t, "a long key", proofOf(longKey+"k", "1"))
	wantNotBeing(t, "a long key, and steps", proofOf(longKey+"k", "1", 0, 1))
	wantNotBeing(t, "a long value", proofOf("a", longValue+"v"))
	wantNotBeing(t, "a long value, and no key", proofOf("", longValue+"v"))
	wantNotBeing(t, "both", proofOf(longKey+"k", longValue+"v"))
	wantNotBeing(t, "a far longer key", proofOf(strings.Repeat("k", 1000), ""))
}

func TestPlacesThatDoNotRise(t *testing.T) { // P5.1 to P5.3
	for _, places := range [][]int{{0, 0}, {1, 0}, {5, 5}, {7, 3}, {0, 1, 1}, {0, 2, 1}, {3, 4, 2, 5}, {9, 9}, {9, 0}, {1, 3, 2, 3}} {
		wantNotBeing(t, "places that do not rise", proofOf("a", "1", places...))
	}
	wantNotBeing(t, "all places, one twice", proofOf(longKey, "1", append(allPlaces(longKey), 9*api.MaxKey)...))
	// What is told of a step hangs on its place alone, not on its Other.
	p := proofOf("a", "1", 2, 2)
	p.Steps[1].Other = p.Steps[0].Other
	wantNotBeing(t, "one step twice", p)
}

func TestPlacesFarOff(t *testing.T) { // P5.1 to P5.3, W1
	for _, key := range []string{"", "a", "\xff\xff", longKey} {
		end := 9*len(key) + 1
		wantBeing(t, proofOf(key, "1", end-1))
		for _, i := range []int{end, end + 1, end + 7, end + 8, end + 9, 1 << 32, api.MaxInt - 1, api.MaxInt, -1, -2, -9, -1 << 32, api.MinInt + 1, api.MinInt} {
			wantNotBeing(t, "a place far off", proofOf(key, "1", i))
			wantNotBeing(t, "a place far off, behind one that may be", proofOf(key, "1", 0, i))
			wantNotBeing(t, "a place far off, ahead of one that may be", proofOf(key, "1", i, end-1))
		}
	}
}

func TestStepsOnTheOtherSide(t *testing.T) { // P5.1 to P5.3
	for _, key := range []string{"", "\x00", "a", "\xff", "ab"} {
		for i := range allPlaces(key) {
			p := proofOf(key, "1", allPlaces(key)...)
			p.Steps[i].Right = !p.Steps[i].Right
			wantNotBeing(t, "a step on the other side", p)
		}
	}
}

// keysBeside are keys that are unlike the first in one bit, or in where they end.
func keysBeside(key string) []string {
	l := []string{key + "\x00", key + "\xff", key + longKey}
	for i := range len(key) {
		l = append(l, key[:i])
		for shift := range 8 {
			b := []byte(key)
			b[i] ^= 1 << shift
			l = append(l, string(b))
		}
	}
	return l
}

func TestKeysThatLeadElsewhere(t *testing.T) { // P5.2
	for _, key := range []string{"", "a", "\x00\xff", "abc"} {
		for _, places := range [][]int{nil, {0}, {9 * len(key)}, {min(2, 9*len(key))}, allPlaces(key)} {
			p := proofOf(key, "1", places...)
			wantCheck(t, rootOf(p), key, p, "1", true)
			for _, k := range keysBeside(key) {
				if slices.ContainsFunc(places, func(i int) bool { return bitOf(k, i) != bitOf(key, i) }) {
					wantNoCheck(t, rootOf(p), k, p)
				} else {
					wantCheck(t, rootOf(p), k, p, "", false)
				}
			}
		}
	}
}

func TestCheckOfTheEmptyKey(t *testing.T) { // P5.2
	none := api.Proof{None: true}
	wantCheck(t, rootOf(none), "", none, "", false)
	p := proofOf("", "")
	wantCheck(t, rootOf(p), "", p, "", true)
	if _, is, e := proof.Check(rootOf(p), nil, p); !is || e != api.OK {
		t.Errorf("Check of nil: %v, %v", is, e)
	}
	if _, is, e := proof.Check(rootOf(p), []byte{}, api.Proof{}); !is || e != api.OK {
		t.Errorf("Check by nil: %v, %v", is, e)
	}
	wantNoCheck(t, rootOf(none), "", p)
	wantNoCheck(t, rootOf(p), "", none)
}

func TestRootsThatAreUnlike(t *testing.T) { // P5.2
	for _, p := range []api.Proof{{None: true}, proofOf("a", "1"), proofOf("a", "1", 3, 9)} {
		for i := range 32 {
			for shift := range 8 {
				root := rootOf(p)
				root[i] ^= 1 << shift
				wantNoCheck(t, root, "a", p)
			}
		}
		wantNoCheck(t, api.Sum{}, "a", p)
	}
}

// changed are proofs that are unlike p in one thing each.
func changed(p api.Proof) []api.Proof {
	var l []api.Proof
	add := func(change func(*api.Proof)) {
		q := copyOf(p)
		change(&q)
		l = append(l, q)
	}
	add(func(q *api.Proof) { q.None = !q.None })
	add(func(q *api.Proof) { *q = api.Proof{None: true} })
	add(func(q *api.Proof) { q.Entry.Key = append(q.Entry.Key, 0) })
	add(func(q *api.Proof) { q.Entry.Value = append(q.Entry.Value, 0) })
	add(func(q *api.Proof) { q.Entry.Key, q.Entry.Value = q.Entry.Value, q.Entry.Key })
	for i := range p.Entry.Key {
		add(func(q *api.Proof) { q.Entry.Key[i] ^= 1 })
		add(func(q *api.Proof) { q.Entry.Key = q.Entry.Key[:i] })
	}
	for i := range p.Entry.Value {
		add(func(q *api.Proof) { q.Entry.Value[i] ^= 128 })
		add(func(q *api.Proof) { q.Entry.Value = q.Entry.Value[:i] })
	}
	for i, s := range p.Steps {
		add(func(q *api.Proof) { q.Steps[i].Right = !s.Right })
		add(func(q *api.Proof) { q.Steps[i].Other[31] ^= 1 })
		add(func(q *api.Proof) { q.Steps[i].Other = api.Sum{} })
		add(func(q *api.Proof) { q.Steps = slices.Delete(q.Steps, i, i+1) })
		add(func(q *api.Proof) { q.Steps = slices.Insert(q.Steps, i, s) })
		for _, place := range []int{s.Bit - 1, s.Bit + 1, s.Bit + 9, 0, -s.Bit - 1} {
			if place != s.Bit {
				add(func(q *api.Proof) { q.Steps[i].Bit = place })
			}
		}
		if i > 0 && s != p.Steps[i-1] {
			add(func(q *api.Proof) { q.Steps[i], q.Steps[i-1] = q.Steps[i-1], q.Steps[i] })
		}
	}
	for i := range 9*len(p.Entry.Key) + 1 {
		if !slices.ContainsFunc(p.Steps, func(s api.Step) bool { return s.Bit == i }) {
			at := 0
			for at < len(p.Steps) && p.Steps[at].Bit < i {
				at++
			}
			add(func(q *api.Proof) {
				q.Steps = slices.Insert(q.Steps, at, api.Step{Bit: i, Right: bitOf(string(p.Entry.Key), i)})
			})
		}
	}
	return l
}

func TestChangedProofs(t *testing.T) { // P5.2, P5.6
	for _, m := range []map[string]string{alike("a"), alike("a", "b"), alike("", "a", "aa", "ab", "b", "ba", "\x00", "\xff\xff")} {
		x := treeOf(t, m)
		for _, k := range append(keysOf(m), "c", "aab", "\x80") {
			p := proof.Make(x, []byte(k))
			for _, q := range changed(p) {
				if same(p, q) {
					continue
				}
				for _, key := range append(keysOf(m), k) {
					wantNoCheck(t, x.Root(), key, q)
				}
			}
		}
	}
}

func TestBytes(t *testing.T) { // P5.3
	if b, e := proof.Bytes(api.Proof{None: true}); e != api.OK || string(b) != "\x00\x00\x00\x01\x00\x00\x00\x08\x00\x00\x00\x00\x00\x00\x00\x01" {
		t.Errorf("Bytes of none: %q, %v", b, e)
	}
	p := api.Proof{Entry: api.Entry{Key: []byte("a"), Value: []byte("12")}, Steps: []api.Step{{Bit: 7, Right: false, Other: api.Sum{5}}, {Bit: 8, Right: true, Other: api.Sum{6}}}}
	zeros := strings.Repeat("\x00", 31)
	want := "\x00\x00\x00\x05" +
		"\x00\x00\x00\x08" + "\x00\x00\x00\x00\x00\x00\x00\x00" +
		"\x00\x00\x00\x01a" + "\x00\x00\x00\x0212" +
		"\x00\x00\x00\x29" + "\x00\x00\x00\x00\x00\x00\x00\x07" + "\x00" + "\x05" + zeros +
		"\x00\x00\x00\x29" + "\x00\x00\x00\x00\x00\x00\x00\x08" + "\x01" + "\x06" + zeros
	if b, e := proof.Bytes(p); e != api.OK || string(b) != want {
		t.Errorf("Bytes: %q, %v, not %q", b, e, want)
	}
	if q, e := proof.Parse([]byte(want)); e != api.OK || !same(p, q) {
		t.Errorf("Parse: %+v, %v", q, e)
	}
}

func wantNoParse(t *testing.T, b string) {
	t.Helper()
	if p, e := proof.Parse([]byte(b)); e != api.ErrForm || !isZero(p) {
		t.Errorf("Parse(%q): %+v, %v, not ErrForm", b, p, e)
	}
}

func TestParseOfOtherRows(t *testing.T) { // P5.3
	zero, one, step := num(0), num(1), stepBlob(api.Step{Bit: 0, Right: true})
	for _, blobs := range [][]string{
		{}, {""}, {zero}, {zero, "a"}, {zero, "a", "1", ""}, {num(2)}, {num(2), "a", "1"}, {num(-1)}, {num(256)}, {num(api.MinInt)}, {num(-1), "a", "1"},
		{one, ""}, {one, "", ""}, {one, "a", "1"}, {one, step}, {one, "", "", step}, {one, one}, {one[1:]}, {one + "\x00"}, {"\x01"}, {"\x00", "a", "1"},
		{zero[1:], "a", "1"}, {zero + "\x00", "a", "1"}, {"", "a", "1"}, {"a", "1"}, {zero, "a", "1", step, ""}, {zero, "a", "1", "", step},
		{zero, "a", "1", step[1:]}, {zero, "a", "1", step + "\x00"}, {zero, "a", "1", step[:8]}, {zero, "a", "1", step[:9]}, {zero, "a", "1", step[:40]},
		{zero, "a", "1", step, step}, {zero, step}, {zero, step, "a", "1"}, {zero, longKey + "k", "1"}, {zero, "a", longValue + "v"},
	} {
		wantNoParse(t, rowOf(blobs...))
	}
	if _, e := proof.Parse([]byte(rowOf(zero, "a", "1", step))); e != api.OK {
		t.Errorf("the row of which the others are unlike: %v", e)
	}
}

func TestParseOfOtherSides(t *testing.T) { // P5.3
	for _, right := range []bool{false, true} {
		p := proofOf("a", "1", 0)
		p.Steps[0] = api.Step{Bit: 1, Right: right}
		p.Entry.Key = []byte{'a'}
		if right {
			p.Entry.Key[0] |= 128
		}
		b := []byte(bytesOf(p))
		at := len(b) - 33
		for side := range 256 {
			b[at] = byte(side)
			if q, e := proof.Parse(b); (side == 1) == right && side < 2 {
				if e != api.OK || !same(p, q) {
					t.Errorf("Parse with a side %d: %+v, %v", side, q, e)
				}
			} else if e != api.ErrForm || !isZero(q) {
				t.Errorf("Parse with a side %d: %+v, %v, not ErrForm", side, q, e)
			}
		}
	}
}

func TestParseOfPieces(t *testing.T) { // P5.3
	for _, p := range []api.Proof{{None: true}, proofOf("", ""), proofOf("ab", "12", 0, 8, 18)} {
		b := bytesOf(p)
		for i := range b {
			wantNoParse(t, b[:i])
			wantNoParse(t, b[i+1:])
		}
		for _, tail := range []string{"\x00", "\xff", "\x00\x00\x00\x00", b} {
			wantNoParse(t, b+tail)
		}
	}
	for _, b := range []string{"", "\x00", "\x00\x00\x00\x00", "\xff\xff\xff\xff", "\x00\x00\x10\x00", "\x00\x00\x10\x01", "\x00\x00\x00\x01\x00\x01\x00\x01", strings.Repeat("\x00", 100)} {
		wantNoParse(t, b)
	}
	if p, e := proof.Parse(nil); e != api.ErrForm || !isZero(p) {
		t.Errorf("Parse(nil): %+v, %v", p, e)
	}
}

func TestParseOfTooManySteps(t *testing.T) { // P5.3, W1
	for _, n := range []int{9*api.MaxKey + 2, api.MaxRow - 3, api.MaxRow - 2, api.MaxRow} {
		p := proofOf(longKey, "1", allPlaces(longKey)...)
		for i := len(p.Steps); i < n; i++ {
			p.Steps = append(p.Steps, api.Step{Bit: i})
		}
		wantNotBeing(t, "too many steps", p)
	}
}

// parsed holds Parse against the chapter's words: what is parsed was written just so.
func parsed(t *testing.T, b []byte) {
	p, e := proof.Parse(b)
	switch e {
	case api.OK:
		if bytesOf(p) != string(b) {
			t.Errorf("Parse(%q): %+v, whose bytes are %q", b, p, bytesOf(p))
		}
		wantBeing(t, p)
	case api.ErrForm:
		if !isZero(p) {
			t.Errorf("Parse(%q): %+v beside the error", b, p)
		}
	default:
		t.Errorf("Parse(%q): %v", b, e)
	}
}

func TestParseOfChangedBytes(t *testing.T) { // P5.3
	for _, p := range []api.Proof{{None: true}, proofOf("", ""), proofOf("ab", "12", 0, 8, 18)} {
		for i := range bytesOf(p) {
			for c := range 256 {
				b := []byte(bytesOf(p))
				b[i] = byte(c)
				parsed(t, b)
			}
		}
	}
}

// spoil writes over bytes, and over their spare room.
func spoil(b []byte) {
	b = b[:cap(b)]
	for i := range b {
		b[i] = '!'
	}
}

// roomy are bytes with spare room that others might use.
func roomy(s string) ([]byte, []byte) {
	room := []byte(s + "spare")
	return room[:len(s)], room
}

func spoilProof(p api.Proof) {
	spoil(p.Entry.Key)
	spoil(p.Entry.Value)
	clear(p.Steps[:cap(p.Steps)])
}

func TestWhatIsHandedInIsNotChanged(t *testing.T) { // P5.4
	for _, c := range []api.Proof{{None: true}, proofOf("a", "1", 0, 9), proofOf("ab", "", 1, 2), proofOf("a", "1", 9, 0)} {
		key, keyRoom := roomy(string(c.Entry.Key))
		value, valueRoom := roomy(string(c.Entry.Value))
		spare := api.Step{Bit: 77}
		steps := append(slices.Clone(c.Steps), spare)
		p := api.Proof{None: c.None, Entry: api.Entry{Key: key, Value: value}, Steps: steps[:len(c.Steps)]}
		asked, askedRoom := roomy("a")
		b, bRoom := roomy(bytesOf(c))
		proof.Texts(p)
		proof.Bytes(p)
		proof.Check(rootOf(c), asked, p)
		proof.Parse(b)
		x := treeOf(t, alike("a", "b"))
		proof.Make(x, asked)
		if !same(p, c) || steps[len(c.Steps)] != spare || string(askedRoom) != "aspare" || string(bRoom) != bytesOf(c)+"spare" ||
			string(keyRoom) != string(c.Entry.Key)+"spare" || string(valueRoom) != string(c.Entry.Value)+"spare" {
			t.Errorf("what was handed in was changed: %+v", c)
		}
	}
}

func TestWhatIsAnsweredIsNewMemory(t *testing.T) { // P5.4
	for _, c := range []api.Proof{{None: true}, proofOf("a", "1", 0, 9), proofOf("ab", "", 1, 2), proofOf("a", "12345678")} {
		p := copyOf(c)
		value, _, _ := proof.Check(rootOf(c), c.Entry.Key, p)
		texts := proof.Texts(p)
		b, _ := proof.Bytes(p)
		q, _ := proof.Parse(b)
		spoilProof(p)
		if string(value) != string(c.Entry.Value) || string(b) != bytesOf(c) || !same(q, c) || string(texts[0]) != textsOf(c)[0] {
			t.Errorf("an answer shares memory with what was handed in: %+v", c)
		}
		spoil(b)
		if !same(q, c) {
			t.Errorf("Parse's answer shares memory with its bytes: %+v", c)
		}
		spoil(q.Entry.Key)
		if string(q.Entry.Value) != string(c.Entry.Value) {
			t.Errorf("Parse's lists share memory: %+v", c)
		}
		for i := range texts {
			spoil(texts[i])
			for j := i + 1; j < len(texts); j++ {
				if string(texts[j]) != textsOf(c)[j] {
					t.Errorf("the texts %d and %d share memory: %+v", i, j, c)
				}
			}
		}
		p = copyOf(c)
		value, _, _ = proof.Check(rootOf(c), c.Entry.Key, p)
		spoil(value)
		again, _ := proof.Bytes(p)
		spoil(again)
		if !same(p, c) {
			t.Errorf("spoiling an answer changed what was handed in: %+v", c)
		}
	}
}

func TestMadeProofsAreApartFromTheTree(t *testing.T) { // P5.4
	m := alike("", "a", "ab", "b")
	x := treeOf(t, m)
	root := x.Root()
	for _, k := range keysOf(m) {
		key, keyRoom := roomy(k)
		p := proof.Make(x, key)
		spoil(keyRoom)
		wantCheck(t, root, k, p, m[k], true)
		spoilProof(p)
		if x.Root() != root {
			t.Fatalf("spoiling %q's proof changed the tree", k)
		}
		wantCheck(t, root, k, proof.Make(x, []byte(k)), m[k], true)
	}
	p := proof.Make(x, []byte("a"))
	x.Put([]byte("a"), []byte("other"))
	x.Delete([]byte("b"))
	wantCheck(t, root, "a", p, m["a"], true)
	wantNoCheck(t, x.Root(), "a", p)
}

// wantTruth makes a key's proof, and holds what it tells, in bytes and back too, against the entries.
func wantTruth(t *testing.T, x *trie.Tree, m map[string]string, key string) {
	t.Helper()
	value, is := m[key]
	p := proof.Make(x, []byte(key))
	wantCheck(t, x.Root(), key, p, value, is)
	b, e := proof.Bytes(p)
	q, f := proof.Parse(b)
	if e != api.OK || f != api.OK || !same(p, q) || string(b) != bytesOf(p) {
		t.Errorf("%q's proof in bytes and back: %+v, %v, %v", key, q, e, f)
	}
	wantCheck(t, x.Root(), key, q, value, is)
	texts := proof.Texts(p)
	if sumOf(string(texts[len(texts)-1])) != x.Root() {
		t.Errorf("the last text of %q's proof has not the root for its digest", key)
	}
}

func TestMadeProofsHold(t *testing.T) { // P5.5
	keys := []string{"", "\x00", "\x00\x00", "\x01", "\x7f", "\x80", "\xff", "\xff\xff", "a", "a\x00", "aa", "ab", "b", longKey, longKey[:api.MaxKey-1], longKey[:60]}
	others := append(slices.Clone(keys), "abc", "c", "\xfe", "\x00\x01", longKey[:61], longKey+"k", longKey+longKey)
	for n := range len(keys) + 1 {
		m := alike(keys[:n]...)
		if n > 9 {
			m["a"], m["\x00"] = longValue, ""
		}
		x := treeOf(t, m)
		for _, k := range others {
			wantTruth(t, x, m, k)
		}
	}
}

func TestMadeProofsHoldInTheDeepestTree(t *testing.T) { // P5.5
	deep := strings.Repeat("\x5a\x00\xff", api.MaxKey/3)
	m := map[string]string{deep: longValue}
	for at := range deep {
		m[deep[:at]] = "end"
		for shift := range 8 {
			m[deep[:at]+string([]byte{deep[at] ^ 1<<shift})] = "bit"
		}
	}
	x := treeOf(t, m)
	if n := len(proof.Texts(proof.Make(x, []byte(deep)))); n != 9*api.MaxKey+1 {
		t.Errorf("the deepest proof has %d texts", n)
	}
	wantTruth(t, x, m, deep)
	wantTruth(t, x, m, deep+"\x00")
	wantTruth(t, x, m, deep[:60])
}

// someEntries has few entries of short keys of few bytes, so that keys meet.
func someEntries(source *rand.Rand) map[string]string {
	m := map[string]string{}
	for range source.Intn(12) {
		m[someKey(source)] = strings.Repeat("v", source.Intn(3))
	}
	return m
}

func someKey(source *rand.Rand) string {
	b := make([]byte, source.Intn(4))
	for i := range b {
		b[i] = []byte{0, 1, 128, 255}[source.Intn(4)]
	}
	return string(b)
}

func TestMadeProofsHoldInManyTrees(t *testing.T) { // P5.5
	source := rand.New(rand.NewSource(5))
	for range 300 {
		m := someEntries(source)
		x := treeOf(t, m)
		for _, k := range append(keysOf(m), someKey(source), someKey(source), someKey(source)) {
			wantTruth(t, x, m, k)
		}
	}
}

// wantSound sees to it that a proof which holds tells the truth, and that its
// texts are some of those that make the root; does it hold?
func wantSound(t *testing.T, m map[string]string, key string, p api.Proof) bool {
	t.Helper()
	made := entryTexts(m, keysOf(m))
	v, is, e := proof.Check(sumOf(made[len(made)-1]), []byte(key), p)
	if e != api.OK {
		return false
	}
	if value, there := m[key]; is != there || string(v) != value {
		t.Errorf("of %q a proof tells %q, %v, not %q, %v: %+v", key, v, is, value, there, p)
	}
	for _, text := range proof.Texts(p) {
		if !slices.Contains(made, string(text)) {
			t.Errorf("a text of a proof that holds makes no root: %q", text)
		}
	}
	return true
}

func TestProofsOfOtherKeys(t *testing.T) { // P5.6
	source := rand.New(rand.NewSource(6))
	held := 0
	for range 100 {
		m := someEntries(source)
		x := treeOf(t, m)
		keys := append(keysOf(m), someKey(source), someKey(source))
		for _, from := range keys {
			p := proof.Make(x, []byte(from))
			for _, key := range keys {
				if wantSound(t, m, key, p) {
					held++
				} else if from == key {
					t.Errorf("the proof of %q does not hold", key)
				}
			}
		}
	}
	if held == 0 {
		t.Error("no proof held")
	}
}

func TestEveryProofOfFewPieces(t *testing.T) { // P5.6
	m := map[string]string{"": "1", "\x00": "2", "\x80": "3"}
	others := []api.Sum{{}}
	for _, text := range entryTexts(m, keysOf(m)) {
		others = append(others, sumOf(text))
	}
	var steps []api.Step
	for _, place := range []int{0, 1, 8, 9} {
		for _, other := range others {
			steps = append(steps, api.Step{Bit: place, Other: other}, api.Step{Bit: place, Right: true, Other: other})
		}
	}
	held := 0
	hold := func(p api.Proof) {
		for _, key := range []string{"", "\x00", "\x80", "\x01"} {
			if wantSound(t, m, key, p) {
				held++
			}
		}
	}
	for _, key := range []string{"", "\x00", "\x80", "\xff"} {
		for _, value := range []string{"1", "2", "3"} {
			entry := api.Entry{Key: []byte(key), Value: []byte(value)}
			hold(api.Proof{Entry: entry})
			for _, one := range steps {
				hold(api.Proof{Entry: entry, Steps: []api.Step{one}})
				for _, two := range steps {
					hold(api.Proof{Entry: entry, Steps: []api.Step{one, two}})
				}
			}
		}
	}
	// "" alone leads left at the first step; at the second one "\x00" and "\x01" lead left, "\x80" right.
	if held != 4 {
		t.Errorf("%d proofs held", held)
	}
}

func FuzzParse(f *testing.F) { // P5.3
	f.Add([]byte(bytesOf(api.Proof{None: true})))
	f.Add([]byte(bytesOf(proofOf("", "", 0))))
	f.Add([]byte(bytesOf(proofOf("ab", "12", 0, 8, 18))))
	f.Fuzz(parsed)
}
