package btree_test

import (
	"runtime"
	"slices"
	"strings"
	"testing"
	"unsafe"

	"vestry/api"
	"vestry/btree"
)

// roomy are bytes in memory of their own, and these with spare room, in which something stands.
func roomy(s string) (short, whole []byte) {
	whole = []byte(s + "spare")
	return whole[:len(s)], whole
}

// spoil writes over bytes, and over their spare room.
func spoil(b []byte) {
	b = b[:cap(b)]
	for i := range b {
		b[i] = '!'
	}
}

// an extent is memory: from one place up to another.
type extent struct{ from, to uintptr }

// extentOf is a list's memory, with its spare room.
func extentOf[T any](l []T) extent {
	var one T
	at := uintptr(unsafe.Pointer(unsafe.SliceData(l)))
	return extent{at, at + uintptr(cap(l))*unsafe.Sizeof(one)}
}

// extentsOf is the memory of entries, each of their texts for itself.
func extentsOf(l []api.Entry) []extent {
	all := []extent{extentOf(l)}
	for _, e := range l {
		all = append(all, extentOf(e.Key), extentOf(e.Value))
	}
	return all
}

// wantApart holds that no two of them share any.
func wantApart(t *testing.T, all []extent) {
	t.Helper()
	all = slices.DeleteFunc(all, func(e extent) bool { return e.from == e.to })
	slices.SortFunc(all, func(a, b extent) int {
		if a.from < b.from {
			return -1
		}
		return 1
	})
	for i := 1; i < len(all); i++ {
		if all[i].from < all[i-1].to {
			t.Fatal("two lists share memory")
		}
	}
}

func TestWhatIsHandedInIsNotKept(t *testing.T) { // P14.5
	for n := range 27 {
		for _, old := range []bool{false, true} {
			x, m := treeOf(t)
			if old {
				x, m = treeOf(t, alphabet(n)...)
			}
			for _, k := range alphabet(n) {
				key, keyRoom := roomy(k)
				value, valueRoom := roomy("value of " + k)
				x.Put(key, value)
				spoil(keyRoom)
				spoil(valueRoom)
				m[k] = "value of " + k
			}
			wantTree(t, x, m, "!", "!!")
			for _, k := range alphabet(n) {
				s := within(k, "m")
				x.Range(s)
				x.Get(s.From)
				spoil(s.From)
				spoil(s.To)
			}
			wantTree(t, x, m, "!")
		}
	}
}

func TestWhatIsHandedInIsNotChanged(t *testing.T) { // P14.5
	x, _ := treeOf(t, alphabet(20)...)
	for _, k := range append(someKeys(), alphabet(26)...) {
		key, keyRoom := roomy(k)
		value, valueRoom := roomy("value")
		for range 2 {
			x.Put(key, value)
			x.Put(key, value)
			x.Get(key)
			x.Range(api.Span{From: key, To: value, End: true})
			x.Range(api.Span{From: value, To: key, End: true})
			x.Delete(key)
			x.Delete(key)
			x.Get(key)
		}
		if string(keyRoom) != k+"spare" || string(valueRoom) != "valuespare" {
			t.Fatalf("%.40q became %.40q, %q", k, keyRoom, valueRoom)
		}
	}
}

func TestOneListForKeyAndValue(t *testing.T) { // P14.5, W6
	for n := range 20 {
		x, m := treeOf(t)
		for _, k := range alphabet(n) {
			b := []byte(k)
			x.Put(b, b)
			m[k] = k
		}
		s := []byte("c")
		wantRange(t, x, m, api.Span{From: s, To: s, End: true})
		wantTree(t, x, m)
	}
}

func TestWhatIsAnsweredIsNewMemory(t *testing.T) { // P14.5
	for n := range 27 {
		x, m := treeOf(t, alphabet(n)...)
		key, keyRoom := roomy("zz")
		value, valueRoom := roomy("value")
		x.Put(key, value)
		m["zz"] = "value"
		all := []extent{extentOf(keyRoom), extentOf(valueRoom)}
		for range 2 {
			for _, k := range m.keys() {
				v, _ := x.Get([]byte(k))
				all = append(all, extentOf(v))
			}
			pages := x.Pages()
			all = append(all, extentOf(pages))
			for _, p := range pages {
				all = append(all, extentsOf(p)...)
			}
			all = append(all, extentsOf(x.Range(api.Span{}))...)
			all = append(all, extentsOf(x.Range(within("b", "k")))...)
			all = append(all, extentsOf(x.Clone().Range(api.Span{}))...)
		}
		wantApart(t, all)
	}
}

// spoilAll writes over entries, their texts, and the spare room of all.
func spoilAll(l []api.Entry) {
	for _, e := range l {
		spoil(e.Key)
		spoil(e.Value)
	}
	l = l[:cap(l)]
	for i := range l {
		l[i] = api.Entry{Key: []byte("!"), Value: []byte("!")}
	}
}

func TestAnswersThatAreSpoiled(t *testing.T) { // P14.5
	for n := range 27 {
		x, m := treeOf(t, alphabet(n)...)
		other := x.Clone()
		kept := x.Range(api.Span{})
		for _, k := range alphabet(n) {
			v, _ := x.Get([]byte(k))
			spoil(v)
			spoilAll(x.Range(from(k)))
			spoilAll(other.Range(within("a", k)))
		}
		pages := x.Pages()
		for _, p := range pages {
			spoilAll(p)
		}
		clear(pages[:cap(pages)])
		wantTree(t, x, m, "!")
		wantTree(t, other, m, "!")
		if !slices.EqualFunc(kept, m.in(api.Span{}), alike) {
			t.Fatalf("an answer became %q", kept)
		}
	}
}

func TestAnswersStayAsTheyAre(t *testing.T) { // P14.5
	x, m := treeOf(t, alphabet(20)...)
	l, pages, v := x.Range(api.Span{}), x.Pages(), make([][]byte, 20)
	for i, k := range alphabet(20) {
		v[i], _ = x.Get([]byte(k))
	}
	for _, k := range alphabet(20) {
		x.Put([]byte(k), []byte("!"))
	}
	for _, k := range alphabet(20) {
		x.Delete([]byte(k))
	}
	if want := m.in(api.Span{}); !slices.EqualFunc(l, want, alike) || !slices.EqualFunc(slices.Concat(pages...), want, alike) {
		t.Errorf("answers became %q, %q", l, pages)
	}
	for i, k := range alphabet(20) {
		if string(v[i]) != k {
			t.Errorf("the value of %s became %q", k, v[i])
		}
	}
}

func TestClonesShareNoMemory(t *testing.T) { // P14.4, P14.5
	for n := range 80 {
		x, m := treeOf(t)
		for i := range n {
			put(t, x, m, number(i*31%97), "value")
		}
		y := x.Clone()
		if !btree.Apart(x, y) || !btree.Apart(y, y.Clone()) {
			t.Fatalf("a tree of %d entries shares memory with its clone", n)
		}
		for i := range n / 2 {
			x.Delete([]byte(number(i * 31 % 97)))
			y.Put([]byte(number(i*31%97+1)), []byte("other"))
		}
		if !btree.Apart(x, y) {
			t.Fatalf("a tree of %d entries shares memory with its changed clone", n)
		}
	}
}

func TestWhatIsGoneIsNotKept(t *testing.T) { // P14.1
	const n = 600
	for name, puts := range orders(n) {
		x, m := treeOf(t)
		for _, k := range puts {
			put(t, x, m, number(k), strings.Repeat("old", 100))
		}
		traces := btree.Traces(x)
		// Of each three one stays, one has another value, one is gone.
		for i := range n {
			switch i % 3 {
			case 1:
				put(t, x, m, number(i), "new")
			case 2:
				take(t, x, m, number(i))
			}
		}
		runtime.GC()
		kept := 0
		for k, v := range traces {
			if v.Value() != nil && m[k] != strings.Repeat("old", 100) {
				kept++
			}
		}
		// One or two may stand in what the calls above left behind them.
		if kept > 2 {
			t.Errorf("put in %s: %d of %d values that are gone are kept", name, kept, 2*n/3)
		}
		wantShape(t, x, m)
	}
}
