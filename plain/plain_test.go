package plain_test

import (
	"bytes"
	"cmp"
	"slices"
	"strings"
	"testing"

	"vestry/api"
	"vestry/plain"
)

// someNumbers rise: the ends, their neighbours, and each byte's turn.
var someNumbers = []int{
	api.MinInt, api.MinInt + 1, -1 << 40, -65537, -65536, -257, -256, -255, -2, -1,
	0, 1, 2, 127, 128, 255, 256, 257, 258, 65535, 65536, 1<<32 - 1, 1 << 32, 1 << 40, api.MaxInt - 1, api.MaxInt,
}

// someTails are what may stand behind.
var someTails = []string{"", "\x00", "\xff", "\x00\x00", "\x00\xff", "a", "\x00\x00\x00\x01a", strings.Repeat("\xff", 20)}

// someTexts are all texts of up to four of these bytes, and some others.
func someTexts() []string {
	l := []string{""}
	from := 0
	for range 4 {
		to := len(l)
		for _, s := range l[from:to] {
			for _, c := range []byte{0, 1, 'a', 254, 255} {
				l = append(l, s+string([]byte{c}))
			}
		}
		from = to
	}
	return append(l, "ä€", "a\x00\x00\x00b", strings.Repeat("\x00", 100), strings.Repeat("x", 1000), "plain")
}

func blobOf(n int, c byte) []byte { return bytes.Repeat([]byte{c}, n) }

// count is a count's four bytes, worked out apart from the package.
func count(n int) string {
	return string([]byte{byte(n >> 24), byte(n >> 16), byte(n >> 8), byte(n)})
}

func TestNum(t *testing.T) { // P1.1
	for _, c := range []struct {
		n    int
		want string
	}{
		{0, "\x00\x00\x00\x00\x00\x00\x00\x00"},
		{258, "\x00\x00\x00\x00\x00\x00\x01\x02"},
		{-1, "\xff\xff\xff\xff\xff\xff\xff\xff"},
		{-256, "\xff\xff\xff\xff\xff\xff\xff\x00"},
		{0x0102030405060708, "\x01\x02\x03\x04\x05\x06\x07\x08"},
		{api.MaxInt, "\x7f\xff\xff\xff\xff\xff\xff\xff"},
		{api.MinInt, "\x80\x00\x00\x00\x00\x00\x00\x00"},
		{api.MinInt + 1, "\x80\x00\x00\x00\x00\x00\x00\x01"},
	} {
		if b := plain.Num(c.n); string(b) != c.want {
			t.Errorf("Num(%d): % x", c.n, b)
		}
		if n, k, e := plain.TakeNum([]byte(c.want)); n != c.n || k != 8 || e != api.OK {
			t.Errorf("TakeNum(% x): %d, %d, %v", c.want, n, k, e)
		}
	}
}

func TestTakeNumCutOff(t *testing.T) { // P1.1
	for _, n := range someNumbers {
		b := plain.Num(n)
		for i := range b {
			if n, k, e := plain.TakeNum(b[:i]); n != 0 || k != 0 || e != api.ErrEnd {
				t.Errorf("TakeNum(% x): %d, %d, %v", b[:i], n, k, e)
			}
		}
	}
	if n, k, e := plain.TakeNum(nil); n != 0 || k != 0 || e != api.ErrEnd {
		t.Errorf("TakeNum(nil): %d, %d, %v", n, k, e)
	}
}

func TestBlob(t *testing.T) { // P1.2
	for _, c := range []struct{ p, want string }{
		{"", "\x00\x00\x00\x00"},
		{"ab", "\x00\x00\x00\x02ab"},
		{"\x00", "\x00\x00\x00\x01\x00"},
		{"\x00\xff", "\x00\x00\x00\x02\x00\xff"},
	} {
		if b, e := plain.Blob([]byte(c.p)); string(b) != c.want || e != api.OK {
			t.Errorf("Blob(%q): % x, %v", c.p, b, e)
		}
	}
	if b, e := plain.Blob(nil); string(b) != "\x00\x00\x00\x00" || e != api.OK {
		t.Errorf("Blob(nil): % x, %v", b, e)
	}
}

func TestBlobLimit(t *testing.T) { // P1.2
	for _, n := range []int{255, 256, 65535, api.MaxBlob} {
		p := blobOf(n, 7)
		b, e := plain.Blob(p)
		if e != api.OK || string(b) != count(n)+string(p) {
			t.Errorf("Blob of %d bytes: %d bytes, %v", n, len(b), e)
		}
		q, k, e := plain.TakeBlob(b)
		if e != api.OK || k != n+4 || !bytes.Equal(p, q) {
			t.Errorf("TakeBlob of %d bytes: %d bytes, %d, %v", n, len(q), k, e)
		}
	}
	for _, n := range []int{api.MaxBlob + 1, 2 * api.MaxBlob} {
		if b, e := plain.Blob(blobOf(n, 7)); len(b) != 0 || e != api.ErrLong {
			t.Errorf("Blob of %d bytes: %d bytes, %v", n, len(b), e)
		}
	}
}

func TestTakeBlobWrong(t *testing.T) { // P1.2
	for _, c := range []struct {
		b    string
		want api.Errno
	}{
		{"", api.ErrEnd},
		{"\xff", api.ErrEnd},
		{"\xff\xff\xff", api.ErrEnd},
		{"\x00\x00\x00\x03\x01", api.ErrEnd},
		{"\x00\x00\x00\x01", api.ErrEnd},
		{"\x00\x01\x00\x00", api.ErrEnd},
		{count(api.MaxBlob) + strings.Repeat("a", api.MaxBlob-1), api.ErrEnd},
		{count(api.MaxBlob + 1), api.ErrLong},
		{count(api.MaxBlob+1) + strings.Repeat("a", api.MaxBlob+1), api.ErrLong},
		{"\x01\x00\x00\x00", api.ErrLong},
		{"\x7f\xff\xff\xff", api.ErrLong},
		{"\x80\x00\x00\x00", api.ErrLong},
		{"\xff\xff\xff\xff", api.ErrLong},
	} {
		if p, k, e := plain.TakeBlob([]byte(c.b)); len(p) != 0 || k != 0 || e != c.want {
			t.Errorf("TakeBlob of %d bytes, % x ..: %q, %d, %v; want %v", len(c.b), c.b[:min(8, len(c.b))], p, k, e, c.want)
		}
	}
}

func TestRow(t *testing.T) { // P1.3
	for _, c := range []struct {
		l    []string
		want string
	}{
		{nil, "\x00\x00\x00\x00"},
		{[]string{""}, "\x00\x00\x00\x01\x00\x00\x00\x00"},
		{[]string{"a", ""}, "\x00\x00\x00\x02\x00\x00\x00\x01a\x00\x00\x00\x00"},
		{[]string{"", "bc", "\x00\xff"}, "\x00\x00\x00\x03\x00\x00\x00\x00\x00\x00\x00\x02bc\x00\x00\x00\x02\x00\xff"},
	} {
		var l [][]byte
		for _, s := range c.l {
			l = append(l, []byte(s))
		}
		if b, e := plain.Row(l...); string(b) != c.want || e != api.OK {
			t.Errorf("Row(%q): % x, %v", c.l, b, e)
		}
		r, k, e := plain.TakeRow([]byte(c.want))
		if e != api.OK || k != len(c.want) || !slices.EqualFunc(l, r, bytes.Equal) {
			t.Errorf("TakeRow(% x): %q, %d, %v", c.want, r, k, e)
		}
	}
	nils, e := plain.Row(nil, nil)
	if string(nils) != "\x00\x00\x00\x02\x00\x00\x00\x00\x00\x00\x00\x00" || e != api.OK {
		t.Errorf("Row(nil, nil): % x, %v", nils, e)
	}
}

func TestRowLimit(t *testing.T) { // P1.3
	l := make([][]byte, api.MaxRow)
	for i := range l {
		l[i] = []byte{byte(i)}
	}
	b, e := plain.Row(l...)
	if e != api.OK || len(b) != 4+5*api.MaxRow || string(b[:4]) != count(api.MaxRow) {
		t.Errorf("Row of %d: %d bytes, %v", len(l), len(b), e)
	}
	r, k, e := plain.TakeRow(b)
	if e != api.OK || k != len(b) || !slices.EqualFunc(l, r, bytes.Equal) {
		t.Errorf("TakeRow of %d: %d, %d, %v", len(l), len(r), k, e)
	}
	if b, e := plain.Row(append(l, nil)...); len(b) != 0 || e != api.ErrLong {
		t.Errorf("Row of %d: %d bytes, %v", len(l)+1, len(b), e)
	}
	full := blobOf(api.MaxBlob, 9)
	b, e = plain.Row(full, nil, full)
	if e != api.OK || len(b) != 16+2*api.MaxBlob {
		t.Errorf("Row of the longest blobs: %d bytes, %v", len(b), e)
	}
	if r, k, e := plain.TakeRow(b); e != api.OK || k != len(b) || len(r) != 3 || !bytes.Equal(r[2], full) {
		t.Errorf("TakeRow of the longest blobs: %d, %d, %v", len(r), k, e)
	}
	for place := range 3 {
		l := [][]byte{nil, []byte("a"), full}
		l[place] = blobOf(api.MaxBlob+1, 9)
		if b, e := plain.Row(l...); len(b) != 0 || e != api.ErrLong {
			t.Errorf("Row with too long a blob at %d: %d bytes, %v", place, len(b), e)
		}
	}
}

func TestTakeRowWrong(t *testing.T) { // P1.3
	const tooLong = "\x00\x01\x00\x01"
	for _, c := range []struct {
		b    string
		want api.Errno
	}{
		{"", api.ErrEnd},
		{"\xff\xff\xff", api.ErrEnd},
		{count(api.MaxRow + 1), api.ErrLong},
		{count(api.MaxRow+1) + strings.Repeat("\x00\x00\x00\x00", api.MaxRow+1), api.ErrLong},
		{count(api.MaxRow), api.ErrEnd},
		{count(api.MaxRow) + strings.Repeat("\x00\x00\x00\x00", api.MaxRow-1), api.ErrEnd},
		{"\x80\x00\x00\x00", api.ErrLong},
		{"\xff\xff\xff\xff", api.ErrLong},
		{"\x00\x00\x00\x01", api.ErrEnd},
		{"\x00\x00\x00\x01" + tooLong, api.ErrLong},
		{"\x00\x00\x00\x01" + tooLong + strings.Repeat("a", api.MaxBlob+1), api.ErrLong},
		{"\x00\x00\x00\x02\x00\x00\x00\x01a" + tooLong, api.ErrLong},
		{"\x00\x00\x00\x03\x00\x00\x00\x01a" + tooLong, api.ErrLong},
		{"\x00\x00\x00\x02\x00\x00\x00\x09a" + tooLong, api.ErrEnd},
		{"\x00\x00\x00\x02\x00\x00\x00\x01a\x00\x01\x00", api.ErrEnd},
		{"\x00\x00\x00\x02\x00\x00\x00\x01a\x00\x00\x00\x01", api.ErrEnd},
	} {
		if l, k, e := plain.TakeRow([]byte(c.b)); len(l) != 0 || k != 0 || e != c.want {
			t.Errorf("TakeRow of %d bytes, % x ..: %q, %d, %v; want %v", len(c.b), c.b[:min(16, len(c.b))], l, k, e, c.want)
		}
	}
}

func TestBlobAndRowCutOff(t *testing.T) { // P1.2, P1.3
	blob, _ := plain.Blob([]byte("some bytes"))
	row, _ := plain.Row([]byte("a"), nil, []byte("\x00\x00\x00\x00"), []byte("more"))
	for i := range blob {
		if p, k, e := plain.TakeBlob(blob[:i]); len(p) != 0 || k != 0 || e != api.ErrEnd {
			t.Errorf("TakeBlob(% x): %q, %d, %v", blob[:i], p, k, e)
		}
	}
	for i := range row {
		if l, k, e := plain.TakeRow(row[:i]); len(l) != 0 || k != 0 || e != api.ErrEnd {
			t.Errorf("TakeRow(% x): %q, %d, %v", row[:i], l, k, e)
		}
	}
}

func TestNumKey(t *testing.T) { // P1.4
	for _, c := range []struct {
		n    int
		want string
	}{
		{api.MinInt, "\x00\x00\x00\x00\x00\x00\x00\x00"},
		{api.MinInt + 1, "\x00\x00\x00\x00\x00\x00\x00\x01"},
		{-1, "\x7f\xff\xff\xff\xff\xff\xff\xff"},
		{0, "\x80\x00\x00\x00\x00\x00\x00\x00"},
		{258, "\x80\x00\x00\x00\x00\x00\x01\x02"},
		{api.MaxInt, "\xff\xff\xff\xff\xff\xff\xff\xff"},
	} {
		b := plain.NumKey(c.n)
		if string(b) != c.want {
			t.Errorf("NumKey(%d): % x", c.n, b)
		}
		if n, k, e := plain.TakeNumKey([]byte(c.want)); n != c.n || k != 8 || e != api.OK {
			t.Errorf("TakeNumKey(% x): %d, %d, %v", c.want, n, k, e)
		}
		for i := range b {
			if n, k, e := plain.TakeNumKey(b[:i]); n != 0 || k != 0 || e != api.ErrEnd {
				t.Errorf("TakeNumKey(% x): %d, %d, %v", b[:i], n, k, e)
			}
		}
	}
}

func TestTextKey(t *testing.T) { // P1.4
	for _, c := range []struct{ s, want string }{
		{"", "\x00\x00"},
		{"a", "a\x00\x00"},
		{"a\x00", "a\x00\xff\x00\x00"},
		{"\x00", "\x00\xff\x00\x00"},
		{"\x00\x00", "\x00\xff\x00\xff\x00\x00"},
		{"\xff", "\xff\x00\x00"},
		{"\x00\xff", "\x00\xff\xff\x00\x00"},
		{"\xff\x00b", "\xff\x00\xffb\x00\x00"},
		{"ä", "\xc3\xa4\x00\x00"},
	} {
		b := plain.TextKey(c.s)
		if string(b) != c.want {
			t.Errorf("TextKey(%q): % x", c.s, b)
		}
		if s, k, e := plain.TakeTextKey([]byte(c.want)); s != c.s || k != len(c.want) || e != api.OK {
			t.Errorf("TakeTextKey(% x): %q, %d, %v", c.want, s, k, e)
		}
		for i := range b {
			if s, k, e := plain.TakeTextKey(b[:i]); s != "" || k != 0 || e != api.ErrEnd {
				t.Errorf("TakeTextKey(% x): %q, %d, %v", b[:i], s, k, e)
			}
		}
	}
}

func TestTakeTextKeyWrong(t *testing.T) { // P1.4
	for _, c := range []struct {
		b    string
		want api.Errno
	}{
		{"", api.ErrEnd},
		{"\x00", api.ErrEnd},
		{"\xff", api.ErrEnd},
		{"ab", api.ErrEnd},
		{"\x00\xff", api.ErrEnd},
		{"\x00\xff\x00", api.ErrEnd},
		{"a\x00\xff\xff", api.ErrEnd},
		{"\x00\x07", api.ErrForm},
		{"a\x00\x01\x00\x00", api.ErrForm},
		{"\x00\xfe\x00\x00", api.ErrForm},
		{"\x00\xff\x00\x02", api.ErrForm},
		{"ab\x00cd", api.ErrForm},
	} {
		if s, k, e := plain.TakeTextKey([]byte(c.b)); s != "" || k != 0 || e != c.want {
			t.Errorf("TakeTextKey(% x): %q, %d, %v; want %v", c.b, s, k, e, c.want)
		}
	}
	for c := 1; c < 255; c++ {
		if _, _, e := plain.TakeTextKey([]byte{0, byte(c), 0, 0}); e != api.ErrForm {
			t.Errorf("TakeTextKey(0 %d 0 0): %v", c, e)
		}
	}
}

// roomy is s with spare room behind it, which holds a mark.
func roomy(s string) []byte {
	b := append([]byte(s), bytes.Repeat([]byte{0xa5}, 64)...)
	return b[:len(s)]
}

// unspoilt tells whether a roomy s is as it was made.
func unspoilt(b []byte, s string) bool {
	return string(b[:cap(b)][:len(s)+64]) == s+strings.Repeat("\xa5", 64)
}

// spoil writes over all that a list has, its spare room too.
func spoil(b []byte) {
	for i := range b[:cap(b)] {
		b[:cap(b)][i] = 0xee
	}
}

func TestMemoryOfWriters(t *testing.T) { // P1.5
	p, q := roomy("first"), roomy("")
	l := append(make([][]byte, 0, 5), p, q)
	blob, _ := plain.Blob(p)
	empty, _ := plain.Blob(q)
	row, _ := plain.Row(l...)
	for _, b := range [][]byte{blob, empty, row} {
		spoil(b)
	}
	if !unspoilt(p, "first") || !unspoilt(q, "") || len(l) != 2 || l[:3][2] != nil {
		t.Errorf("what was handed in is changed: %q, %q", p[:cap(p)], q[:cap(q)])
	}
	for _, call := range []func() []byte{
		func() []byte { return plain.Num(3) },
		func() []byte { return plain.NumKey(3) },
		func() []byte { return plain.TextKey("text") },
		func() []byte { return plain.TextKey("") },
		func() []byte { b, _ := plain.Blob(nil); return b },
		func() []byte { b, _ := plain.Row(); return b },
	} {
		first := call()
		want := string(first)
		spoil(first)
		if again := call(); string(again) != want {
			t.Errorf("a second answer has the first one's memory: % x, not % x", again, want)
		}
	}
	mine := []byte("mine")
	kept, _ := plain.Blob(mine)
	keptRow, _ := plain.Row(mine)
	spoil(mine)
	if string(kept[4:]) != "mine" || string(keptRow[8:]) != "mine" {
		t.Errorf("an answer changed with its argument: %q, %q", kept, keptRow)
	}
}

func TestMemoryOfTakers(t *testing.T) { // P1.5
	const blob, row, text = "\x00\x00\x00\x02ab?", "\x00\x00\x00\x03\x00\x00\x00\x02ab\x00\x00\x00\x00\x00\x00\x00\x01c?", "a\x00\xffb\x00\x00?"
	b, r, k, n := roomy(blob), roomy(row), roomy(text), roomy("12345678")
	p, _, _ := plain.TakeBlob(b)
	l, _, _ := plain.TakeRow(r)
	s, _, _ := plain.TakeTextKey(k)
	plain.TakeNum(n)
	plain.TakeNumKey(n)
	spoil(p)
	for i := range l {
		others := slices.Delete(slices.Clone(l), i, i+1)
		was := string(bytes.Join(others, []byte{'|'}))
		spoil(l[i])
		if is := string(bytes.Join(others, []byte{'|'})); is != was {
			t.Errorf("blob %d of a row has the memory of others: %q, not %q", i, is, was)
		}
	}
	if !unspoilt(b, blob) || !unspoilt(r, row) || !unspoilt(k, text) || !unspoilt(n, "12345678") {
		t.Errorf("what was handed in is changed: %q, %q, %q, %q", b, r, k, n)
	}
	p, _, _ = plain.TakeBlob(b)
	l, _, _ = plain.TakeRow(r)
	for _, x := range [][]byte{b, r, k} {
		spoil(x)
	}
	if string(p) != "ab" || len(l) != 3 || string(l[0]) != "ab" || string(l[2]) != "c" || s != "a\x00b" {
		t.Errorf("an answer changed with its argument: %q, %q, %q", p, l, s)
	}
}

func TestWrittenIsTaken(t *testing.T) { // P1.6
	for _, tail := range someTails {
		for _, n := range someNumbers {
			if m, k, e := plain.TakeNum(append(plain.Num(n), tail...)); m != n || k != 8 || e != api.OK {
				t.Errorf("TakeNum of %d and %q: %d, %d, %v", n, tail, m, k, e)
			}
			if m, k, e := plain.TakeNumKey(append(plain.NumKey(n), tail...)); m != n || k != 8 || e != api.OK {
				t.Errorf("TakeNumKey of %d and %q: %d, %d, %v", n, tail, m, k, e)
			}
		}
		for _, s := range someTexts() {
			key := plain.TextKey(s)
			if r, k, e := plain.TakeTextKey(append(key, tail...)); r != s || k != len(key) || e != api.OK {
				t.Errorf("TakeTextKey of %q and %q: %q, %d, %v", s, tail, r, k, e)
			}
			blob, _ := plain.Blob([]byte(s))
			if p, k, e := plain.TakeBlob(append(blob, tail...)); string(p) != s || k != len(blob) || e != api.OK {
				t.Errorf("TakeBlob of %q and %q: %q, %d, %v", s, tail, p, k, e)
			}
			l := [][]byte{[]byte(s), nil, []byte(tail), []byte(s)}
			row, _ := plain.Row(l...)
			if r, k, e := plain.TakeRow(append(row, tail...)); !slices.EqualFunc(l, r, bytes.Equal) || k != len(row) || e != api.OK {
				t.Errorf("TakeRow of %q and %q: %q, %d, %v", l, tail, r, k, e)
			}
		}
	}
}

// someBytes goes over all lists of up to most of these bytes.
func someBytes(most int, of []byte, yield func([]byte)) {
	var grow func(b []byte)
	grow = func(b []byte) {
		yield(b)
		if len(b) == most {
			return
		}
		for _, c := range of {
			grow(append(slices.Clone(b), c))
		}
	}
	grow(nil)
}

func TestTakenWasWritten(t *testing.T) { // P1.6
	someBytes(6, []byte{0, 1, 7, 254, 255}, func(b []byte) {
		if s, k, e := plain.TakeTextKey(b); e == api.OK && !bytes.Equal(plain.TextKey(s), b[:k]) {
			t.Errorf("TakeTextKey(% x): %q, %d", b, s, k)
		}
		long := append([]byte{0, 0}, b...)
		if p, k, e := plain.TakeBlob(long); e == api.OK {
			if w, e := plain.Blob(p); e != api.OK || !bytes.Equal(w, long[:k]) {
				t.Errorf("TakeBlob(% x): %q, %d", long, p, k)
			}
		}
		long = append([]byte{0, 0, 0, 2, 0, 0, 0}, b...)
		if l, k, e := plain.TakeRow(long); e == api.OK {
			if w, e := plain.Row(l...); e != api.OK || !bytes.Equal(w, long[:k]) {
				t.Errorf("TakeRow(% x): %q, %d", long, l, k)
			}
		}
		long = append(append([]byte{128}, b...), b...)
		if n, k, e := plain.TakeNum(long); e == api.OK && !bytes.Equal(plain.Num(n), long[:k]) {
			t.Errorf("TakeNum(% x): %d, %d", long, n, k)
		}
		if n, k, e := plain.TakeNumKey(long); e == api.OK && !bytes.Equal(plain.NumKey(n), long[:k]) {
			t.Errorf("TakeNumKey(% x): %d, %d", long, n, k)
		}
	})
}

func TestNumKeysStandAsNumbers(t *testing.T) { // P1.7
	for _, m := range someNumbers {
		for _, n := range someNumbers {
			for _, tail := range someTails {
				a, b := plain.NumKey(m), plain.NumKey(n)
				if m != n {
					a, b = append(a, tail...), append(b, "\x80"...)
				}
				if bytes.Compare(a, b) != cmp.Compare(m, n) {
					t.Errorf("the keys of %d and %d: % x, % x", m, n, a, b)
				}
			}
		}
	}
}

func TestTextKeysStandAsTexts(t *testing.T) { // P1.7
	texts := someTexts()
	for _, r := range texts {
		for _, s := range texts {
			a, b := plain.TextKey(r), plain.TextKey(s)
			if r == s {
				continue
			}
			want := strings.Compare(r, s)
			if bytes.HasPrefix(a, b) || bytes.HasPrefix(b, a) {
				t.Errorf("one key begins with the other: %q, %q", a, b)
			}
			if bytes.Compare(a, b) != want ||
				bytes.Compare(append(a, 255, 255), b) != want || bytes.Compare(a, append(b, 255, 255)) != want {
				t.Errorf("the keys of %q and %q: % x, % x", r, s, a, b)
			}
		}
	}
}

func FuzzTake(f *testing.F) { // P1.6
	f.Add([]byte("\x00\x00\x00\x02\x00\x00\x00\x01a\x00\x00\x00\x00"))
	f.Add([]byte("a\x00\xff\x00\x00"))
	f.Fuzz(func(t *testing.T, b []byte) {
		if l, k, e := plain.TakeRow(b); e == api.OK {
			if w, _ := plain.Row(l...); !bytes.Equal(w, b[:k]) {
				t.Errorf("TakeRow(% x): %q, %d", b, l, k)
			}
		}
		if s, k, e := plain.TakeTextKey(b); e == api.OK && !bytes.Equal(plain.TextKey(s), b[:k]) {
			t.Errorf("TakeTextKey(% x): %q, %d", b, s, k)
		}
	})
}
