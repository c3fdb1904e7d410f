package trie_test

import (
	"bytes"
	"crypto/sha256"
	"encoding/binary"
	"maps"
	"math/rand"
	"slices"
	"strings"
	"testing"

	"vestry/api"
	"vestry/trie"
)

// What follows up to pathOf are the chapter's words, worked out apart from the
// package and from the layers below it.

// bitsOf are a key's bits, up to its end.
func bitsOf(key string) string {
	var b strings.Builder
	for i := range len(key) {
		b.WriteByte('1')
		for shift := 7; shift >= 0; shift-- {
			b.WriteByte('0' + key[i]>>shift&1)
		}
	}
	b.WriteByte('0')
	return b.String()
}

// bitOf is one of them; ahead of the first and behind the last all are 0.
func bitOf(key string, i int) bool {
	all := bitsOf(key)
	return i >= 0 && i < len(all) && all[i] == '1'
}

// sumOf is the digest of a named row.
func sumOf(name string, parts ...string) api.Sum {
	row := binary.BigEndian.AppendUint32(nil, uint32(1+len(parts)))
	for _, p := range append([]string{name}, parts...) {
		row = binary.BigEndian.AppendUint32(row, uint32(len(p)))
		row = append(row, p...)
	}
	return api.Sum(sha256.Sum256(row))
}

// place is where the keys' bits are first unlike, and these keys by that bit.
func place(keys []string) (int, []string, []string) {
	first := api.MaxInt
	one := bitsOf(keys[0])
	for _, k := range keys[1:] {
		other, i := bitsOf(k), 0
		for one[i] == other[i] {
			i++
		}
		first = min(first, i)
	}
	var zeros, ones []string
	for _, k := range keys {
		if bitOf(k, first) {
			ones = append(ones, k)
		} else {
			zeros = append(zeros, k)
		}
	}
	return first, zeros, ones
}

// rootOf is the root of the entries of these keys.
func rootOf(m map[string]string, keys []string) api.Sum {
	switch len(keys) {
	case 0:
		return sumOf("none")
	case 1:
		return sumOf("leaf", keys[0], m[keys[0]])
	}
	i, zeros, ones := place(keys)
	left, right := rootOf(m, zeros), rootOf(m, ones)
	return sumOf("fork", string(binary.BigEndian.AppendUint64(nil, uint64(i))), string(left[:]), string(right[:]))
}

// pathOf is the path of a key.
func pathOf(m map[string]string, keys []string, key string) (string, []api.Step) {
	if len(keys) == 1 {
		return keys[0], nil
	}
	i, near, far := place(keys)
	right := bitOf(key, i)
	if right {
		near, far = far, near
	}
	end, steps := pathOf(m, near, key)
	return end, append([]api.Step{{Bit: i, Right: right, Other: rootOf(m, far)}}, steps...)
}

func keysOf(m map[string]string) []string { return slices.Sorted(maps.Keys(m)) }

// entriesOf are entries by rising keys.
func entriesOf(m map[string]string) []api.Entry {
	var l []api.Entry
	for _, k := range keysOf(m) {
		l = append(l, api.Entry{Key: []byte(k), Value: []byte(m[k])})
	}
	return l
}

// treeOf has these entries, put by rising keys.
func treeOf(t *testing.T, m map[string]string) *trie.Tree {
	t.Helper()
	x := trie.New()
	for _, k := range keysOf(m) {
		mustPut(t, x, k, m[k])
	}
	return x
}

// alike are entries of these keys, each with another value.
func alike(keys ...string) map[string]string {
	m := map[string]string{}
	for _, k := range keys {
		m[k] = "value of " + k[:min(len(k), 200)]
	}
	return m
}

func mustPut(t *testing.T, x *trie.Tree, key, value string) {
	t.Helper()
	if e := x.Put([]byte(key), []byte(value)); e != api.OK {
		t.Fatalf("Put(%q, %d bytes): %v", key, len(value), e)
	}
}

func sameEntry(a, b api.Entry) bool {
	return bytes.Equal(a.Key, b.Key) && bytes.Equal(a.Value, b.Value)
}

// wantPath holds a key's path against the chapter's words.
func wantPath(t *testing.T, x *trie.Tree, m map[string]string, key string) {
	t.Helper()
	p := x.Path([]byte(key))
	if len(m) == 0 {
		if !p.None || len(p.Entry.Key) != 0 || len(p.Entry.Value) != 0 || len(p.Steps) != 0 {
			t.Errorf("Path(%q) of none: %+v", key, p)
		}
		return
	}
	end, steps := pathOf(m, keysOf(m), key)
	if p.None || string(p.Entry.Key) != end || string(p.Entry.Value) != m[end] {
		t.Errorf("Path(%q) ends at %v, %q, not at %q", key, p.None, p.Entry, end)
	}
	if !slices.Equal(p.Steps, steps) {
		t.Errorf("Path(%q) has the steps %v, not %v", key, p.Steps, steps)
	}
}

// wantTree holds all that a tree tells against entries, and against others of
// which it has nothing.
func wantTree(t *testing.T, x *trie.Tree, m map[string]string, others ...string) {
	t.Helper()
	if n := x.Count(); n != len(m) {
		t.Errorf("Count: %d, not %d", n, len(m))
	}
	all := x.All()
	if !slices.EqualFunc(all, entriesOf(m), sameEntry) {
		t.Errorf("All: %q, not %q", all, entriesOf(m))
	}
	root := x.Root()
	if want := rootOf(m, keysOf(m)); root != want {
		t.Errorf("Root of %q: %x, not %x", keysOf(m), root, want)
	}
	if s, e := trie.RootOf(all); s != root || e != api.OK {
		t.Errorf("RootOf(All) of %q: %x, %v, not %x", keysOf(m), s, e, root)
	}
	for _, k := range append(keysOf(m), others...) {
		want, there := m[k]
		if v, ok := x.Get([]byte(k)); ok != there || string(v) != want || !ok && v != nil {
			t.Errorf("Get(%q): %q, %v, not %q, %v", k, v, ok, want, there)
		}
		wantPath(t, x, m, k)
	}
}

var (
	longKey   = strings.Repeat("k", api.MaxKey)
	longValue = strings.Repeat("v", api.MaxValue)
)

// someKeys are short and long ones, beginnings of others, and such as are
// unlike in a first bit, in a last one, and in none but that one ends.
func someKeys() []string {
	return []string{
		"", "\x00", "\x00\x00", "\x00\x01", "\x01", "\x7f", "\x80", "\xfe", "\xff", "\xff\x00", "\xff\xff",
		"a", "a\x00", "a\xff", "aa", "ab", "abc", "abd", "ac", "b", "`", "\x61\x80", "\x61\x7f",
		longKey, longKey[:api.MaxKey-1], longKey[:api.MaxKey-1] + "j", longKey[:api.MaxKey-1] + "\x00", longKey[:60],
	}
}

func TestExampleOfBits(t *testing.T) { // P4.4
	for i, want := range map[int]bool{0: true, 1: false, 2: true, 9: false} {
		if trie.Bit([]byte("a"), i) != want {
			t.Errorf("Bit(a, %d) is not %v", i, want)
		}
	}
}

func TestExampleOfAPath(t *testing.T) { // P4.3
	x := treeOf(t, map[string]string{"a": "1", "b": "2"})
	p := x.Path([]byte("a"))
	if p.None || string(p.Entry.Key) != "a" || string(p.Entry.Value) != "1" {
		t.Errorf("the entry at the end: %v, %q", p.None, p.Entry)
	}
	if want := []api.Step{{Bit: 7, Right: false, Other: sumOf("leaf", "b", "2")}}; !slices.Equal(p.Steps, want) {
		t.Errorf("the steps: %v", p.Steps)
	}
	p = x.Path([]byte("b"))
	if want := []api.Step{{Bit: 7, Right: true, Other: sumOf("leaf", "a", "1")}}; !slices.Equal(p.Steps, want) {
		t.Errorf("the steps of b: %v", p.Steps)
	}
}

func TestBitsOfAllPlaces(t *testing.T) { // P4.4
	for _, k := range append(someKeys(), longKey+"more", strings.Repeat("\xa5", 1000)) {
		for i := -20; i < 9*len(k)+20; i++ {
			if b := trie.Bit([]byte(k), i); b != bitOf(k, i) {
				t.Errorf("Bit(%q, %d): %v", k, i, b)
			}
		}
		end := 9 * len(k)
		if trie.Bit([]byte(k), end) || end > 0 && !trie.Bit([]byte(k), end-9) {
			t.Errorf("Bit(%q) at its last byte, or its end", k)
		}
	}
}

func TestBitsFarOff(t *testing.T) { // P4.4, W1
	for _, k := range [][]byte{nil, {}, []byte("\xff"), bytes.Repeat([]byte{255}, api.MaxKey)} {
		for _, i := range []int{api.MinInt, api.MinInt + 1, -1 << 32, -10, -9, -8, -1, 1 << 32, 1<<32 + 1, api.MaxInt - 8, api.MaxInt - 1, api.MaxInt} {
			if trie.Bit(k, i) {
				t.Errorf("Bit of %d bytes at %d", len(k), i)
			}
		}
	}
	if trie.Bit(nil, 0) || trie.Bit([]byte{}, 0) || trie.Bit([]byte{}, 1) {
		t.Error("a bit of the empty key is a 1")
	}
}

func TestNewHasNone(t *testing.T) { // P4.1, P4.2, P4.3
	x := trie.New()
	wantTree(t, x, nil, append(someKeys(), longKey+"k")...)
	if x.Delete(nil) || x.Delete([]byte("a")) {
		t.Error("Delete of what is not there")
	}
	mustPut(t, x, "a", "1")
	wantTree(t, trie.New(), nil, "a")
}

func TestOneEntry(t *testing.T) { // P4.1, P4.2, P4.3
	for _, k := range someKeys() {
		for _, v := range []string{"", "1", "\x00", longValue} {
			m := map[string]string{k: v}
			x := treeOf(t, m)
			wantTree(t, x, m, "", "\x00", "a", "b", k+"\x00", k+"k")
			if p := x.Path([]byte("other")); p.None || string(p.Entry.Key) != k || string(p.Entry.Value) != v || len(p.Steps) != 0 {
				t.Errorf("Path of another key than the only one: %+v", p)
			}
		}
	}
}

func TestTheEmptyKeyAndTheEmptyValue(t *testing.T) { // P4.1, W5
	empty := [][]byte{nil, {}}
	for _, key := range empty {
		for _, value := range empty {
			x := treeOf(t, map[string]string{"a": "1"})
			for range 2 {
				if e := x.Put(key, value); e != api.OK {
					t.Errorf("Put of the empty key: %v", e)
				}
			}
			wantTree(t, x, map[string]string{"": "", "a": "1"}, "\x00")
			for _, same := range empty {
				if v, ok := x.Get(same); !ok || len(v) != 0 {
					t.Errorf("Get of the empty key: %q, %v", v, ok)
				}
			}
			if !x.Delete(key) || x.Delete(nil) || x.Delete([]byte{}) {
				t.Error("Delete of the empty key")
			}
			wantTree(t, x, map[string]string{"a": "1"}, "")
		}
	}
}

func TestManyKeys(t *testing.T) { // P4.1, P4.2, P4.3
	m := alike(someKeys()...)
	m["aa"] = ""
	wantTree(t, treeOf(t, m), m, "c", "abcd", "a\x01", "\x00\x02", longKey+"k", longKey+longKey)
}

func TestKeysThatBeginOthers(t *testing.T) { // P4.2, P4.3
	for _, keys := range [][]string{
		{"", "\x00"}, {"", "\xff"}, {"a", "ab"}, {"a", "a\x00"}, {"ab", "a", ""}, {"a", "ab", "b"}, {"a", "ab", "abc", "abcd"},
		{longKey, longKey[:api.MaxKey-1]}, {longKey, ""},
	} {
		m := alike(keys...)
		wantTree(t, treeOf(t, m), m, "a", "abz", "ac", "c", "\x00", longKey+"a")
	}
	x := treeOf(t, map[string]string{"ab": "2", "a": "1"})
	p := x.Path([]byte("a"))
	if want := []api.Step{{Bit: 9, Right: false, Other: sumOf("leaf", "ab", "2")}}; !slices.Equal(p.Steps, want) {
		t.Errorf("Path(a) beside ab: %v", p.Steps)
	}
}

func TestKeysUnlikeInTheLastBit(t *testing.T) { // P4.2, P4.3
	for _, n := range []int{1, 2, 60, api.MaxKey} {
		head := strings.Repeat("k", n-1)
		m := alike(head+"\x10", head+"\x11")
		x := treeOf(t, m)
		wantTree(t, x, m, head, head+"\x12", head+"\x13", head+"\x10\x00")
		p := x.Path([]byte(head + "\x11"))
		if len(p.Steps) != 1 || p.Steps[0].Bit != 9*n-1 || !p.Steps[0].Right || string(p.Entry.Key) != head+"\x11" {
			t.Errorf("Path of %d bytes: %+v", n, p)
		}
	}
}

func TestLongKeysAndValues(t *testing.T) { // P4.1
	m := alike("a", longKey[:api.MaxKey-1])
	x := treeOf(t, m)
	for _, c := range []struct{ key, value string }{
		{longKey + "k", ""}, {longKey + "k", "1"}, {longKey + longKey, "1"}, {"", longValue + "v"}, {"a", longValue + "v"},
		{"new", longValue + longValue}, {longKey, longValue + "v"}, {longKey + "k", longValue + "v"},
	} {
		if e := x.Put([]byte(c.key), []byte(c.value)); e != api.ErrLong {
			t.Errorf("Put of %d and %d bytes: %v", len(c.key), len(c.value), e)
		}
		if e := trie.New().Put([]byte(c.key), []byte(c.value)); e != api.ErrLong {
			t.Errorf("Put of %d and %d bytes in a new tree: %v", len(c.key), len(c.value), e)
		}
		wantTree(t, x, m, c.key)
	}
	mustPut(t, x, longKey, longValue)
	m[longKey] = longValue
	wantTree(t, x, m, longKey+"k")
	if x.Delete([]byte(longKey + "k")) {
		t.Error("Delete of too long a key")
	}
	if !x.Delete([]byte(longKey)) {
		t.Error("Delete of the longest key")
	}
	delete(m, longKey)
	wantTree(t, x, m, longKey)
}

func TestPutTwice(t *testing.T) { // P4.1, P4.6
	m := alike(someKeys()...)
	x := treeOf(t, m)
	for _, k := range someKeys() {
		for _, v := range []string{"", longValue, "other", "other", m[k], "new " + m[k]} {
			mustPut(t, x, k, v)
			if got, ok := x.Get([]byte(k)); !ok || string(got) != v {
				t.Errorf("Get(%q) behind the second Put: %q, %v", k, got, ok)
			}
		}
		m[k] = "new " + m[k]
		if n := x.Count(); n != len(m) {
			t.Errorf("Count behind the second Put of %q: %d", k, n)
		}
	}
	wantTree(t, x, m)
}

func TestDelete(t *testing.T) { // P4.1, P4.6
	for _, k := range someKeys() {
		m := alike(someKeys()...)
		x := treeOf(t, m)
		delete(m, k)
		if !x.Delete([]byte(k)) {
			t.Errorf("Delete(%q) of what is there", k)
		}
		wantTree(t, x, m, k)
		if x.Delete([]byte(k)) || x.Delete([]byte(k)) {
			t.Errorf("Delete(%q) of what was taken away", k)
		}
		wantTree(t, x, m, k)
	}
}

func TestDeleteOfWhatIsNotThere(t *testing.T) { // P4.1
	m := alike(someKeys()...)
	x := treeOf(t, m)
	for _, k := range []string{"c", "abcd", "a\x01", "\x00\x02", "\x81", longKey + "k", longKey[1:2], longKey[:61]} {
		if x.Delete([]byte(k)) {
			t.Errorf("Delete(%q)", k)
		}
	}
	wantTree(t, x, m)
}

func TestDeleteOfAll(t *testing.T) { // P4.1, P4.6
	source := rand.New(rand.NewSource(4))
	for range 20 {
		m := alike(someKeys()...)
		x := treeOf(t, m)
		keys := someKeys()
		source.Shuffle(len(keys), func(i, j int) { keys[i], keys[j] = keys[j], keys[i] })
		for _, k := range keys {
			if !x.Delete([]byte(k)) {
				t.Errorf("Delete(%q)", k)
			}
			delete(m, k)
			wantTree(t, x, m, k)
		}
	}
}

// orders are all orders of a list.
func orders(l []string) [][]string {
	if len(l) == 0 {
		return [][]string{nil}
	}
	var all [][]string
	for i, first := range l {
		for _, rest := range orders(slices.Delete(slices.Clone(l), i, i+1)) {
			all = append(all, append([]string{first}, rest...))
		}
	}
	return all
}

func TestTheOrderOfPutsDoesNotCount(t *testing.T) { // P4.6
	for _, keys := range [][]string{
		{"a", "b"}, {"", "a", "ab"}, {"a", "b", "c", "d"}, {"", "\x00", "\x00\x00", "\xff", "\x80"}, {"a", "ab", "aba", "b", "`"},
	} {
		m := alike(keys...)
		for _, order := range orders(keys) {
			x := trie.New()
			for _, k := range order {
				mustPut(t, x, k, m[k])
			}
			wantTree(t, x, m)
		}
	}
}

func TestPutAndTakenAwayAgain(t *testing.T) { // P4.6
	for n := range len(someKeys()) {
		m := alike(someKeys()[:n]...)
		x := treeOf(t, m)
		root := x.Root()
		for _, k := range someKeys()[n:] {
			mustPut(t, x, k, "1")
			if x.Root() == root {
				t.Errorf("Put(%q) leaves the root as it was", k)
			}
			if !x.Delete([]byte(k)) || x.Root() != root {
				t.Errorf("%q, put and taken away again, leaves another root", k)
			}
		}
		for _, k := range someKeys()[n:] {
			mustPut(t, x, k, "1")
		}
		for _, k := range someKeys()[n:] {
			x.Delete([]byte(k))
		}
		wantTree(t, x, m)
	}
}

func TestUnlikeEntriesHaveUnlikeRoots(t *testing.T) { // P4.2
	seen := map[api.Sum]string{}
	for _, m := range []map[string]string{
		{}, {"": ""}, {"a": ""}, {"": "a"}, {"a": "b"}, {"ab": ""}, {"b": "a"}, {"a": "", "b": ""}, {"a": "1", "b": "2"}, {"a": "2", "b": "1"}, {"": "", "a": "1", "b": "2"},
	} {
		root := treeOf(t, m).Root()
		if other, ok := seen[root]; ok {
			t.Errorf("%q and %s have one root", m, other)
		}
		seen[root] = strings.Join(keysOf(m), ",")
	}
}

// wantRootOf holds RootOf against an error, or against a root.
func wantRootOf(t *testing.T, l []api.Entry, sum api.Sum, want api.Errno) {
	t.Helper()
	if s, e := trie.RootOf(l); s != sum || e != want {
		t.Errorf("RootOf of %d entries: %x, %v, not %x, %v", len(l), s, e, sum, want)
	}
}

func TestRootOf(t *testing.T) { // P4.4
	wantRootOf(t, nil, sumOf("none"), api.OK)
	wantRootOf(t, []api.Entry{}, sumOf("none"), api.OK)
	wantRootOf(t, []api.Entry{{}}, sumOf("leaf", "", ""), api.OK)
	wantRootOf(t, []api.Entry{{Key: []byte{}, Value: []byte{}}}, sumOf("leaf", "", ""), api.OK)
	wantRootOf(t, []api.Entry{{Key: []byte("a"), Value: []byte("1")}}, sumOf("leaf", "a", "1"), api.OK)
	a, b := sumOf("leaf", "a", "1"), sumOf("leaf", "b", "2")
	wantRootOf(t, entriesOf(map[string]string{"a": "1", "b": "2"}), sumOf("fork", "\x00\x00\x00\x00\x00\x00\x00\x07", string(a[:]), string(b[:])), api.OK)
	m := alike(someKeys()...)
	wantRootOf(t, entriesOf(m), rootOf(m, keysOf(m)), api.OK)
	m = map[string]string{longKey: longValue, longKey[:api.MaxKey-1]: longValue}
	wantRootOf(t, entriesOf(m), rootOf(m, keysOf(m)), api.OK)
}

// listOf are entries of these keys, in this order.
func listOf(keys ...string) []api.Entry {
	var l []api.Entry
	for _, k := range keys {
		l = append(l, api.Entry{Key: []byte(k), Value: []byte("1")})
	}
	return l
}

func TestRootOfKeysThatDoNotRise(t *testing.T) { // P4.4
	for _, keys := range [][]string{
		{"a", "a"}, {"", ""}, {"b", "a"}, {"ab", "a"}, {"a", ""}, {"\x80", "\x7f"}, {"\xff", "\x00"}, {"aa", "b", "ab"}, {"b", "aa"},
		{"a", "b", "b"}, {"a", "b", "a"}, {"b", "a", "c"}, {"a", "c", "b", "d"}, {longKey, longKey}, {longKey, longKey[:api.MaxKey-1]},
	} {
		wantRootOf(t, listOf(keys...), api.Sum{}, api.ErrArg)
	}
	twice := listOf("a", "a")
	twice[1].Value = []byte("2")
	wantRootOf(t, twice, api.Sum{}, api.ErrArg)
	wantRootOf(t, []api.Entry{{Key: nil}, {Key: []byte{}}}, api.Sum{}, api.ErrArg)
}

func TestRootOfLongOnes(t *testing.T) { // P4.4, W4
	for at := range 3 {
		l := listOf("a", "b", "c")
		l[at].Value = []byte(longValue + "v")
		wantRootOf(t, l, api.Sum{}, api.ErrLong)
		l = listOf("a", "b", "c")
		l[at].Key = []byte(string(l[at].Key) + longKey)
		wantRootOf(t, l, api.Sum{}, api.ErrLong)
	}
	wantRootOf(t, listOf(longKey+"k"), api.Sum{}, api.ErrLong)
	// Too long is told ahead of keys that do not rise, wherever both stand.
	wantRootOf(t, listOf("b", "a", "c"+longKey), api.Sum{}, api.ErrLong)
	wantRootOf(t, listOf(longKey+"k", "b", "a"), api.Sum{}, api.ErrLong)
	wantRootOf(t, listOf(longKey+"k", longKey+"k"), api.Sum{}, api.ErrLong)
	l := listOf("b", "a", "a")
	l[2].Value = []byte(longValue + "v")
	wantRootOf(t, l, api.Sum{}, api.ErrLong)
}

func TestPathOfOtherKeys(t *testing.T) { // P4.3
	m := alike("a", "ab", "b", "ba", "c")
	x := treeOf(t, m)
	for _, k := range []string{"", "\x00", "aa", "abc", "ac", "bb", "b\x00", "d", "z", "\xff", longKey, longKey + "k", "a" + longKey + longKey} {
		wantPath(t, x, m, k)
		if p := x.Path([]byte(k)); string(p.Entry.Key) == k {
			t.Errorf("Path(%q) ends at an entry of it", k)
		}
	}
}

func TestPathEndsAtItsKey(t *testing.T) { // P4.7
	m := alike(someKeys()...)
	x := treeOf(t, m)
	for _, k := range someKeys() {
		if p := x.Path([]byte(k)); p.None || string(p.Entry.Key) != k || string(p.Entry.Value) != m[k] {
			t.Errorf("Path(%q): %v, %q", k, p.None, p.Entry)
		}
	}
}

func TestTheDeepestPath(t *testing.T) { // P4.3, P4.6, W1
	deep := []byte(strings.Repeat("\x5a\x00\xff", api.MaxKey/3))
	x := trie.New()
	if e := x.Put(deep, []byte("deep")); e != api.OK {
		t.Fatal(e)
	}
	// At each place another key leaves the way.
	for at := range deep {
		x.Put(deep[:at], []byte("end"))
		for shift := range 8 {
			other := bytes.Clone(deep[:at+1])
			other[at] ^= 1 << shift
			x.Put(other, []byte("bit"))
		}
	}
	p := x.Path(deep)
	if !bytes.Equal(p.Entry.Key, deep) || len(p.Steps) != 9*api.MaxKey {
		t.Fatalf("a path of %d steps, not %d", len(p.Steps), 9*api.MaxKey)
	}
	for i, s := range p.Steps {
		if s.Bit != i || s.Right != bitOf(string(deep), i) {
			t.Errorf("step %d: at %d, right %v", i, s.Bit, s.Right)
		}
	}
	all := x.All()
	if s, e := trie.RootOf(all); len(all) != 9*api.MaxKey+1 || s != x.Root() || e != api.OK {
		t.Errorf("%d entries: RootOf is not Root, %v", len(all), e)
	}
}

// spoil writes over bytes, and over their spare room.
func spoil(b []byte) {
	b = b[:cap(b)]
	for i := range b {
		b[i] = '!'
	}
}

// roomy are bytes with spare room that others might use.
func roomy(s string) ([]byte, []byte) {
	room := []byte(s + "spare")
	return room[:len(s)], room
}

func TestWhatIsHandedInIsNotKept(t *testing.T) { // P4.5
	m := map[string]string{"a": "1", "ab": "2", "b": "", "": "4"}
	for _, values := range [][]string{nil, {"old"}} { // of an earlier Put of the key
		x := trie.New()
		for k, v := range m {
			for _, v := range append(values, v) {
				key, keyRoom := roomy(k)
				value, valueRoom := roomy(v)
				x.Put(key, value)
				spoil(keyRoom)
				spoil(valueRoom)
			}
		}
		wantTree(t, x, m, "!", "!!")
	}
	l := entriesOf(m)
	first, _ := trie.RootOf(l)
	for _, e := range l {
		spoil(e.Key)
		spoil(e.Value)
	}
	if again, _ := trie.RootOf(entriesOf(m)); again != first {
		t.Error("RootOf kept what it was handed")
	}
}

func TestWhatIsHandedInIsNotChanged(t *testing.T) { // P4.5
	x := treeOf(t, alike("a", "ab", "b"))
	for _, k := range append(someKeys(), longKey+"k") {
		for _, v := range []string{"", "1", longValue, longValue + "v"} {
			key, keyRoom := roomy(k)
			value, valueRoom := roomy(v)
			x.Get(key)
			x.Delete(key)
			x.Put(key, value)
			x.Put(key, value)
			x.Get(key)
			x.Path(key)
			trie.Bit(key, 3)
			x.Delete(key)
			if string(keyRoom) != k+"spare" || string(valueRoom) != v+"spare" {
				t.Errorf("%q, %d bytes: what was handed in was changed", k, len(v))
			}
		}
	}
	for _, keys := range [][]string{{"a", "b", "c"}, {"c", "b", "a"}, {"a", longKey + "k"}} {
		l := listOf(append(keys, "rest")...)
		trie.RootOf(l[:len(keys)])
		if !slices.EqualFunc(l, listOf(append(keys, "rest")...), sameEntry) {
			t.Errorf("RootOf changed %q", l)
		}
	}
}

func TestWhatIsAnsweredIsNewMemory(t *testing.T) { // P4.5
	m := alike(someKeys()...)
	m["a"] = ""
	x := treeOf(t, m)
	for _, k := range someKeys() {
		v, _ := x.Get([]byte(k))
		spoil(v)
		p := x.Path([]byte(k))
		spoil(p.Entry.Key)
		if string(p.Entry.Value) != m[k] {
			t.Errorf("Path(%q): a key and its value share memory", k)
		}
		spoil(p.Entry.Value)
		clear(p.Steps[:cap(p.Steps)])
	}
	wantTree(t, x, m)
	all, other := x.All(), x.All()
	for i, e := range all {
		spoil(e.Key)
		if string(e.Value) != string(other[i].Value) {
			t.Error("All: a key and its value share memory")
		}
		spoil(e.Value)
		if i+1 < len(all) && !sameEntry(all[i+1], other[i+1]) {
			t.Error("All: two entries share memory")
		}
	}
	clear(all[:cap(all)])
	if !slices.EqualFunc(other, entriesOf(m), sameEntry) {
		t.Error("two answers share memory")
	}
	wantTree(t, x, m)
}

func TestTreesAreApart(t *testing.T) { // P4.1, P4.5
	one, two := trie.New(), trie.New()
	for _, e := range entriesOf(alike("a", "ab", "b")) {
		one.Put(e.Key, e.Value)
		two.Put(e.Key, e.Value)
	}
	mustPut(t, one, "c", "1")
	two.Delete([]byte("a"))
	m := alike("a", "ab", "b")
	m["c"] = "1"
	wantTree(t, one, m)
	wantTree(t, two, alike("ab", "b"), "a", "c")
}

// run takes each three bytes as a call, and holds the tree against a map.
func run(t *testing.T, calls []byte) {
	x, m := trie.New(), map[string]string{}
	for ; len(calls) >= 3; calls = calls[3:] {
		// Few bytes, and few bits of them, so that keys meet.
		key := strings.Repeat(string([]byte{calls[1] & 0x83}), int(calls[1]>>2)%4) + string([]byte{calls[2] & 0x81})[:calls[2]>>1&1]
		_, there := m[key]
		if calls[0]%3 == 0 {
			if x.Delete([]byte(key)) != there {
				t.Fatalf("Delete(%q) is not %v", key, there)
			}
			delete(m, key)
			continue
		}
		m[key] = strings.Repeat("v", int(calls[0])%5)
		mustPut(t, x, key, m[key])
	}
	wantTree(t, x, m, "", "\x00", "\x01", "\x80\x81", "\x82\x82\x00\x00")
}

func TestCallsAgainstAMap(t *testing.T) { // P4.1 to P4.7
	source := rand.New(rand.NewSource(4))
	for n := range 200 {
		calls := make([]byte, 3*n)
		source.Read(calls)
		run(t, calls)
	}
}

func FuzzCalls(f *testing.F) {
	f.Add([]byte{1, 4, 0, 1, 5, 2, 0, 4, 0})
	f.Fuzz(run)
}
