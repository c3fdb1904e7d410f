package btree_test

import (
	"encoding/binary"
	"maps"
	"math/rand"
	"slices"
	"strings"
	"testing"

	"vestry/api"
	"vestry/btree"
)

func wantKeys(t *testing.T, l []api.Entry, want string) {
	t.Helper()
	var keys []byte
	for _, e := range l {
		keys = append(keys, e.Key...)
	}
	if string(keys) != want {
		t.Errorf("%q, not %q", keys, want)
	}
}

func TestExamples(t *testing.T) { // P14.1 to P14.3
	x, m := treeOf(t, alphabet(4)...)
	if pages := x.Pages(); len(pages) != 1 || x.Depth() != 1 {
		t.Errorf("of a to d: %q, %d", pages, x.Depth())
	}
	wantKeys(t, x.Pages()[0], "abcd")
	put(t, x, m, "e", "e")
	if x.Depth() != 2 {
		t.Errorf("of a to e: %d", x.Depth())
	}
	wantKeys(t, x.Range(within("b", "d")), "bc")
	for _, k := range "bcde" {
		take(t, x, m, string(k))
	}
	if x.Depth() != 1 {
		t.Errorf("of a: %d", x.Depth())
	}
	wantTree(t, x, m, alphabet(6)...)
}

func TestNew(t *testing.T) { // P14.1, P14.3
	x := btree.New()
	if pages := x.Pages(); len(pages) != 1 || len(pages[0]) != 0 || x.Depth() != 1 || x.Count() != 0 {
		t.Errorf("New: %q, %d, %d", pages, x.Depth(), x.Count())
	}
	if v, ok := x.Get(nil); v != nil || ok || x.Delete(nil) || x.Delete([]byte("a")) || x.Range(api.Span{}) != nil {
		t.Errorf("New has %q, %v", v, ok)
	}
	wantTree(t, x, nil, "", "\x00", "a", "\xff")
	wantTree(t, x.Clone(), nil, "", "a")
}

func TestOneEntry(t *testing.T) { // P14.1
	for _, k := range someKeys() {
		for _, v := range []string{"", "\x00", "v", strings.Repeat("v", 5000)} {
			x, m := treeOf(t)
			put(t, x, m, k, v)
			wantTree(t, x, m, append(someKeys(), k+"\x00", k+"a")...)
			take(t, x, m, k+"\x00")
			wantTree(t, x, m)
			take(t, x, m, k)
			wantTree(t, x, m, someKeys()...)
			take(t, x, m, k)
			wantTree(t, x, m, k)
		}
	}
}

// someKeys are short and long ones, and beginnings of others.
func someKeys() []string {
	long := strings.Repeat("k", 3*api.MaxKey)
	return []string{
		"", "\x00", "\x00\x00", "\x00\x01", "\x01", "\x7f", "\x80", "\xfe", "\xff", "\xff\x00", "\xff\xff", "\xff\xff\xff\xff\xff\xff\xff\xff\xff",
		"a", "a\x00", "a\xff", "aa", "ab", "abc", "abd", "ac", "b", "B", "é", "日",
		long, long[1:], long + "\x00", long[1:] + "j", strings.Repeat("k", 1<<16), strings.Repeat("k", 1<<16+1),
	}
}

func TestSomeKeys(t *testing.T) { // P14.1, P14.2
	source := rand.New(rand.NewSource(14))
	for range 30 {
		keys := someKeys()
		source.Shuffle(len(keys), func(i, j int) { keys[i], keys[j] = keys[j], keys[i] })
		x, m := treeOf(t)
		for i, k := range keys {
			put(t, x, m, k, strings.Repeat("v", i))
			wantShape(t, x, m)
		}
		wantTree(t, x, m, "c", "a\x01", "kk", "\xfd")
		for _, k := range someKeys() {
			for _, end := range someKeys() {
				wantRange(t, x, m, within(k, end))
			}
		}
		for _, k := range keys[:len(keys)-3] {
			take(t, x, m, k)
			wantShape(t, x, m)
		}
		wantTree(t, x, m, keys...)
	}
}

func TestNilAndEmptyAreTheSame(t *testing.T) { // W5
	empty := [][]byte{nil, {}}
	for _, key := range empty {
		for _, value := range empty {
			for n := range 12 {
				x, m := treeOf(t, alphabet(n)...)
				if x.Put(key, value) || !x.Put(key, value) {
					t.Errorf("Put of the empty key")
				}
				m[""] = ""
				wantTree(t, x, m)
				for _, other := range empty {
					if v, ok := x.Get(other); len(v) != 0 || !ok {
						t.Errorf("Get of the empty key: %q, %v", v, ok)
					}
					wantRange(t, x, m, api.Span{From: other, To: key})
					wantRange(t, x, m, api.Span{From: other, To: key, End: true})
				}
				if !x.Delete(key) || x.Delete(nil) || x.Delete([]byte{}) {
					t.Errorf("Delete of the empty key")
				}
				delete(m, "")
				wantTree(t, x, m, "")
			}
		}
	}
}

func TestPutOfWhatIsThere(t *testing.T) { // P14.1
	for n := range 27 {
		x, m := treeOf(t, alphabet(n)...)
		before := x.Pages()
		for _, k := range alphabet(n) {
			for _, v := range []string{"new", "", strings.Repeat("v", 5000), "new", k + k} {
				put(t, x, m, k, v)
				wantGet(t, x, m, k)
			}
		}
		wantTree(t, x, m, alphabet(26)...)
		for i, p := range x.Pages() {
			if len(p) != len(before[i]) {
				t.Errorf("the leaf %d has %d entries now, not %d", i, len(p), len(before[i]))
			}
		}
	}
}

func TestDeleteOfWhatIsNotThere(t *testing.T) { // P14.1
	for n := range 27 {
		x, m := treeOf(t, alphabet(n)...)
		for _, k := range append(alphabet(n), "", "A", "{") {
			take(t, x, m, k+"\x00")
			take(t, x, m, strings.ToUpper(k))
			if k != "" {
				take(t, x, m, k+k)
			}
		}
		wantTree(t, x, m)
	}
}

func TestSpans(t *testing.T) { // P14.2
	for n := range 18 {
		x, m := treeOf(t)
		// Keys between which others stand.
		var ends []string
		for i := range n {
			k := string([]byte{byte('a' + i)})
			put(t, x, m, k, "of "+k)
			ends = append(ends, k, k+"\x00", k+"m")
		}
		ends = append(ends, "", "\x00", "`", "\xff", string(rune('a'+n)))
		for _, k := range ends {
			wantRange(t, x, m, from(k))
			for _, end := range ends {
				wantRange(t, x, m, within(k, end))
				// Without End there is no To.
				wantRange(t, x, m, api.Span{From: []byte(k), To: []byte(end)})
			}
		}
		wantRange(t, x, m, api.Span{End: true})
	}
}

func TestRangesMeet(t *testing.T) { // P14.7
	for n := range 18 {
		x, _ := treeOf(t, alphabet(n)...)
		var at []string
		for _, k := range append(alphabet(n), "") {
			at = append(at, k, k+"\x00")
		}
		slices.Sort(at)
		for i, a := range at {
			for j, b := range at[i:] {
				first := x.Range(within(a, b))
				for _, c := range at[i+j:] {
					if l := append(slices.Clone(first), x.Range(within(b, c))...); !slices.EqualFunc(l, x.Range(within(a, c)), alike) {
						t.Fatalf("%q to %q to %q of %d: %q", a, b, c, n, l)
					}
				}
				if l := append(first, x.Range(from(b))...); !slices.EqualFunc(l, x.Range(from(a)), alike) {
					t.Fatalf("%q to %q and on of %d: %q", a, b, n, l)
				}
			}
		}
	}
}

func TestAllSmallTrees(t *testing.T) { // P14.1, P14.3, P14.4, P14.6
	// From each tree that any calls lead to, by each call that goes on from there.
	keys := alphabet(10)
	trees := []*btree.Tree{btree.New()}
	met := map[string]int{btree.Shape(trees[0]): 1}
	for len(trees) > 0 {
		x := trees[0]
		trees = trees[1:]
		m := model{}
		for _, e := range x.Range(api.Span{}) {
			m[string(e.Key)] = string(e.Value)
		}
		shape := btree.Shape(x)
		for _, k := range keys {
			other, changed := x.Clone(), maps.Clone(m)
			if _, there := m[k]; there {
				take(t, other, changed, k)
			} else {
				put(t, other, changed, k, k)
			}
			wantShape(t, other, changed)
			if s := btree.Shape(other); met[s] == 0 {
				met[s]++
				trees = append(trees, other)
				wantTree(t, other, changed, keys...)
			}
		}
		if btree.Shape(x) != shape {
			t.Fatalf("%s became %s by what was done to its clones", shape, btree.Shape(x))
		}
	}
	if len(met) < 1<<len(keys) {
		t.Errorf("%d trees of all subsets of %d keys", len(met), len(keys))
	}
}

// number is a key that stands as its number does.
func number(n int) string { return string(binary.BigEndian.AppendUint32(nil, uint32(n))) }

// orders are ways to go through so many numbers.
func orders(n int) map[string][]int {
	up, down, ends, middle, random := make([]int, n), make([]int, n), make([]int, n), make([]int, n), rand.New(rand.NewSource(int64(n))).Perm(n)
	for i := range n {
		up[i], down[i] = i, n-1-i
		ends[i] = i / 2
		if i%2 == 1 {
			ends[i] = n - 1 - i/2
		}
		middle[n-1-i] = ends[i]
	}
	return map[string][]int{"up": up, "down": down, "ends": ends, "middle": middle, "random": random}
}

func TestGrownAndTakenDown(t *testing.T) { // P14.1, P14.3, P14.6
	const n = 700
	for in, puts := range orders(n) {
		for out, takes := range orders(n) {
			x, m := treeOf(t)
			deepest := 0
			for i, k := range puts {
				put(t, x, m, number(k), number(k))
				wantDepth(t, x)
				if i%50 == 0 {
					wantShape(t, x, m)
				}
				deepest = max(deepest, x.Depth())
			}
			wantShape(t, x, m)
			if deepest < 5 {
				t.Errorf("%d entries at the depth %d", n, deepest)
			}
			for i, k := range takes {
				take(t, x, m, number(k))
				wantDepth(t, x)
				if i%50 == 0 || i > n-30 {
					wantShape(t, x, m)
				}
			}
			if x.Count() != 0 || x.Depth() != 1 || len(x.Pages()) != 1 {
				t.Errorf("in %s, out %s: %d entries, depth %d", in, out, x.Count(), x.Depth())
			}
		}
	}
}

func TestManyEntries(t *testing.T) { // P14.1 to P14.3, P14.6
	const n = 60000
	x, m := treeOf(t)
	source := rand.New(rand.NewSource(7))
	for _, k := range source.Perm(n) {
		put(t, x, m, number(2*k), "of "+number(k))
	}
	wantShape(t, x, m)
	if x.Depth() < 8 {
		t.Errorf("%d entries at the depth %d", n, x.Depth())
	}
	for range 30 {
		at := source.Intn(2 * n)
		wantRange(t, x, m, within(number(at), number(at+source.Intn(300))))
		wantGet(t, x, m, number(at))
	}
	for _, k := range source.Perm(n)[:n-5] {
		take(t, x, m, number(2*k))
	}
	wantTree(t, x, m, number(0), number(1), number(2*n))
}

func TestClones(t *testing.T) { // P14.4
	for n := range 24 {
		for _, k := range append(alphabet(n), "", "a\x00", "m\x00", "\xff") {
			x, m := treeOf(t, alphabet(n)...)
			first := x.Clone()
			again := first.Clone()
			same := maps.Clone(m)
			// Each of them in turn is changed, the others stay.
			put(t, x, m, k, "new")
			wantTree(t, first, same, k)
			wantTree(t, x, m, k)
			if _, there := same[k]; there {
				changed := maps.Clone(same)
				take(t, first, changed, k)
				wantTree(t, first, changed, k)
			}
			wantTree(t, again, same, k)
			wantTree(t, x, m, k)
			for k := range m {
				x.Delete([]byte(k))
			}
			wantTree(t, x, nil, k)
			wantTree(t, again, same, k)
		}
	}
}

func TestCallsThatOnlyTell(t *testing.T) { // P14.1 to P14.4, W3
	x, m := treeOf(t, alphabet(20)...)
	shape := btree.Shape(x)
	for _, k := range append(alphabet(26), "", "\xff") {
		x.Get([]byte(k))
		x.Range(from(k))
		x.Range(within(k, "m"))
		x.Pages()
		x.Depth()
		x.Count()
		x.Clone()
		x.Delete([]byte(k + "\x00"))
	}
	if btree.Shape(x) != shape {
		t.Errorf("%s became %s", shape, btree.Shape(x))
	}
	wantTree(t, x, m)
}

func TestTheSameCallsMakeTheSameTree(t *testing.T) { // W2
	calls := make([]byte, 3000)
	rand.New(rand.NewSource(3)).Read(calls)
	x, y := btree.New(), btree.New()
	run(t, x, model{}, calls)
	run(t, y, model{}, calls)
	if btree.Shape(x) != btree.Shape(y) {
		t.Errorf("%s and %s", btree.Shape(x), btree.Shape(y))
	}
}

// run takes each three bytes as a call.
func run(t *testing.T, x *btree.Tree, m model, calls []byte) {
	t.Helper()
	for ; len(calls) >= 3; calls = calls[3:] {
		key := string(calls[1 : 1+calls[0]>>2%3])
		switch calls[0] % 4 {
		case 0, 1:
			put(t, x, m, key, string(calls[:2]))
		case 2:
			take(t, x, m, key)
		default:
			wantGet(t, x, m, key)
			wantRange(t, x, m, within(key, string(calls[2:3])))
		}
	}
}

func runAndHold(t *testing.T, calls []byte) {
	x, m := treeOf(t)
	half := len(calls) / 6 * 3
	run(t, x, m, calls[:half])
	wantShape(t, x, m)
	other, same := x.Clone(), maps.Clone(m)
	run(t, x, m, calls[half:])
	wantTree(t, x, m, "", "\x00", "\x80\x81")
	wantTree(t, other, same, "", "\x00", "\x80\x81")
}

func TestCallsAgainstAMap(t *testing.T) { // P14.1 to P14.7
	source := rand.New(rand.NewSource(4))
	for n := range 200 {
		calls := make([]byte, 6*n)
		source.Read(calls)
		if n%2 == 0 { // keys that meet
			for i := range calls {
				if i%3 != 0 {
					calls[i] &= 15
				}
			}
		}
		runAndHold(t, calls)
	}
}

func FuzzCalls(f *testing.F) {
	f.Add([]byte{4, 1, 0, 4, 2, 2, 6, 1, 0, 7, 1, 9})
	f.Fuzz(runAndHold)
}
