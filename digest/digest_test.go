package digest_test

import (
	"bytes"
	"crypto/sha256"
	"encoding/hex"
	"slices"
	"strings"
	"testing"

	"vestry/api"
	"vestry/digest"
	"vestry/plain"
)

// pattern is a text of n bytes of which no two pieces are alike.
func pattern(n int) []byte {
	b := make([]byte, n)
	for i := range b {
		b[i] = byte(i*7 + i/64 + 128)
	}
	return b
}

// parts is a row's parts, each a text.
func parts(texts ...string) [][]byte {
	var l [][]byte
	for _, s := range texts {
		l = append(l, []byte(s))
	}
	return l
}

// someSums are digests in which each half of a byte is each digit somewhere.
func someSums() []api.Sum {
	l := []api.Sum{{}}
	for from := 0; from < 256; from += 32 {
		var s api.Sum
		for i := range s {
			s[i] = byte(from + i)
		}
		l = append(l, s)
	}
	for i := range 32 {
		var s api.Sum
		s[i] = 0xf0
		l = append(l, s)
	}
	return append(l, digest.Raw([]byte("abc")), digest.Raw(nil))
}

func TestRawOfKnownTexts(t *testing.T) { // P2.1
	for _, c := range []struct{ text, want string }{
		{"abc", "ba7816bf8f01cfea414140de5dae2223b00361a396177a9cb410ff61f20015ad"},
		{"", "e3b0c44298fc1c149afbf4c8996fb92427ae41e4649b934ca495991b7852b855"},
		{"abcdbcdecdefdefgefghfghighijhijkijkljklmklmnlmnomnopnopq", "248d6a61d20638b8e5c026930c3e6039a33ce45964ff2167f6ecedd419db06c1"},
		{strings.Repeat("a", 1000000), "cdc76e5c9914fb9281a1c7e284d73e67f1809a48a497200e046d39ccc7112cd0"},
	} {
		if got := hex.EncodeToString(sumOf(digest.Raw([]byte(c.text)))); got != c.want {
			t.Errorf("Raw of %d bytes: %s, not %s", len(c.text), got, c.want)
		}
	}
}

func sumOf(s api.Sum) []byte { return s[:] }

func TestRawAtEveryLength(t *testing.T) { // P2.1: 55, 56, 63, 64, 65, 119, 120 are among them
	for n := range 400 {
		for _, b := range [][]byte{make([]byte, n), pattern(n), bytes.Repeat([]byte{255}, n)} {
			if got := digest.Raw(b); got != api.Sum(sha256.Sum256(b)) {
				t.Errorf("Raw of %d bytes from %v: %x", n, b[:min(n, 3)], got)
			}
		}
	}
}

func TestRawOfLongTexts(t *testing.T) { // P2.1: the number of bits has one byte, two, three, four
	for _, n := range []int{8191, 8192, 1<<16 - 1, 1 << 16, 1<<21 - 1, 1 << 21, 1<<21 + 56} {
		b := pattern(n)
		if got := digest.Raw(b); got != api.Sum(sha256.Sum256(b)) {
			t.Errorf("Raw of %d bytes: %x", n, got)
		}
	}
}

func TestRawOfNil(t *testing.T) { // P2.1: a nil list is an empty one
	if digest.Raw(nil) != digest.Raw([]byte{}) {
		t.Errorf("Raw tells nil from empty")
	}
}

func TestText(t *testing.T) { // P2.2
	for _, c := range []struct {
		name  string
		parts [][]byte
		want  string
	}{
		{"x", parts("a"), "\x00\x00\x00\x02\x00\x00\x00\x01x\x00\x00\x00\x01a"},
		{"", nil, "\x00\x00\x00\x01\x00\x00\x00\x00"},
		{"", parts(""), "\x00\x00\x00\x02\x00\x00\x00\x00\x00\x00\x00\x00"},
		{"x", nil, "\x00\x00\x00\x01\x00\x00\x00\x01x"},
		{"x", [][]byte{nil, []byte("\x00\xff")}, "\x00\x00\x00\x03\x00\x00\x00\x01x\x00\x00\x00\x00\x00\x00\x00\x02\x00\xff"},
		{"ä\xff\x00", parts("b", "c"), "\x00\x00\x00\x03\x00\x00\x00\x04\xc3\xa4\xff\x00\x00\x00\x00\x01b\x00\x00\x00\x01c"},
		{"0123456789abcdef", nil, "\x00\x00\x00\x01\x00\x00\x00\x100123456789abcdef"},
	} {
		b, e := digest.Text(c.name, c.parts...)
		if e != api.OK || string(b) != c.want {
			t.Errorf("Text(%q, %q): %q, %v, not %q", c.name, c.parts, b, e, c.want)
		}
	}
}

func TestOf(t *testing.T) { // P2.2
	for _, c := range []struct {
		name  string
		parts [][]byte
	}{
		{"", nil}, {"x", nil}, {"x", parts("a")}, {"x", parts("", "")},
		{strings.Repeat("n", api.MaxTag), parts("a", "b")},
		{"x", [][]byte{pattern(30)}}, {"x", [][]byte{pattern(52), pattern(65)}},
		{"x", [][]byte{pattern(api.MaxBlob)}},
	} {
		row, e := plain.Row(append([][]byte{[]byte(c.name)}, c.parts...)...)
		if e != api.OK {
			t.Fatalf("plain.Row: %v", e)
		}
		if got, e := digest.Of(c.name, c.parts...); e != api.OK || got != api.Sum(sha256.Sum256(row)) {
			t.Errorf("Of(%q, %d parts): %x, %v", c.name, len(c.parts), got, e)
		}
	}
}

func TestOfExample(t *testing.T) { // P2.2: the text of ("x", "a"), summed
	want := sha256.Sum256([]byte("\x00\x00\x00\x02\x00\x00\x00\x01x\x00\x00\x00\x01a"))
	if got, e := digest.Of("x", []byte("a")); e != api.OK || got != api.Sum(want) {
		t.Errorf("Of: %x, %v", got, e)
	}
}

func TestTextAndOfErrors(t *testing.T) { // P2.2
	longest := strings.Repeat("n", api.MaxTag)
	full := pattern(api.MaxBlob)
	for _, c := range []struct {
		what  string
		name  string
		parts [][]byte
		want  api.Errno
	}{
		{"a name of MaxTag", longest, nil, api.OK},
		{"a name of MaxTag + 1", longest + "n", nil, api.ErrLong},
		{"a name of MaxTag + 1, of two bytes each", strings.Repeat("ä", 8) + "n", nil, api.ErrLong},
		{"a name of MaxTag, of two bytes each", strings.Repeat("ä", 8), nil, api.OK},
		{"a name past a blob's end", strings.Repeat("n", api.MaxBlob+1), nil, api.ErrLong},
		{"a part of MaxBlob", "x", [][]byte{full}, api.OK},
		{"a part of MaxBlob + 1", "x", [][]byte{nil, append(full, 1)}, api.ErrLong},
		{"MaxRow - 1 parts beside the name", "x", make([][]byte, api.MaxRow-1), api.OK},
		{"MaxRow parts beside the name", "x", make([][]byte, api.MaxRow), api.ErrLong},
		{"MaxRow parts and no name", "", make([][]byte, api.MaxRow), api.ErrLong},
		{"both too long", longest + "n", [][]byte{append(full, 1)}, api.ErrLong},
	} {
		b, e := digest.Text(c.name, c.parts...)
		if e != c.want || (e != api.OK) != (len(b) == 0) {
			t.Errorf("Text of %s: %d bytes, %v", c.what, len(b), e)
		}
		s, e := digest.Of(c.name, c.parts...)
		if e != c.want || (e != api.OK) != (s == api.Sum{}) {
			t.Errorf("Of %s: %x, %v", c.what, s, e)
		}
	}
}

func TestHex(t *testing.T) { // P2.3
	for _, s := range someSums() {
		if got, want := digest.Hex(s), hex.EncodeToString(s[:]); got != want {
			t.Errorf("Hex: %s, not %s", got, want)
		}
	}
}

func TestUnhex(t *testing.T) { // P2.3
	for _, want := range someSums() {
		if got, e := digest.Unhex(hex.EncodeToString(want[:])); e != api.OK || got != want {
			t.Errorf("Unhex: %x, %v, not %x", got, e, want)
		}
	}
}

func TestUnhexOfOtherLengths(t *testing.T) { // P2.3
	for n := range 200 {
		if n == 64 {
			continue
		}
		if s, e := digest.Unhex(strings.Repeat("a", n)); e != api.ErrForm || s != (api.Sum{}) {
			t.Errorf("Unhex of %d digits: %x, %v", n, s, e)
		}
	}
	for _, s := range []string{strings.Repeat("ä", 64), strings.Repeat("ä", 32), " " + strings.Repeat("0", 64), "0x" + strings.Repeat("0", 64), "0x" + strings.Repeat("0", 62)} {
		if sum, e := digest.Unhex(s); e != api.ErrForm || sum != (api.Sum{}) {
			t.Errorf("Unhex(%q): %x, %v", s, sum, e)
		}
	}
}

func TestUnhexOfOtherSigns(t *testing.T) { // P2.3: capitals are among them
	good := []byte(strings.Repeat("1f", 32))
	for at := range good {
		for c := range 256 {
			text := slices.Clone(good)
			text[at] = byte(c)
			sum, e := digest.Unhex(string(text))
			want := api.ErrForm
			if strings.IndexByte("0123456789abcdef", byte(c)) >= 0 {
				want = api.OK
			}
			if e != want || e != api.OK && sum != (api.Sum{}) {
				t.Errorf("Unhex with the byte %d at %d: %x, %v", c, at, sum, e)
			}
		}
	}
}

// withRoom is b with spare room behind it that is filled with marks.
func withRoom(b []byte) []byte {
	room := append(slices.Clone(b), bytes.Repeat([]byte{0x5a}, 100)...)
	return room[:len(b)]
}

func TestHandedInIsLeft(t *testing.T) { // P2.4
	for _, n := range []int{0, 1, 55, 56, 63, 64, 65, 119, 120} {
		b := withRoom(pattern(n))
		l := make([][]byte, 0, 8)
		l = append(l, withRoom(pattern(3)), b)
		whole := [][]byte{b[:n+100], l[0][:103]}
		before := [][]byte{slices.Clone(whole[0]), slices.Clone(whole[1])}
		digest.Raw(b)
		digest.Text("name", l...)
		digest.Of("name", l...)
		if !slices.EqualFunc(whole, before, bytes.Equal) {
			t.Errorf("%d bytes: what was handed in, or its room, has changed", n)
		}
		for i, p := range l[:cap(l)] {
			if i >= 2 && p != nil || i < 2 && len(p) != []int{3, n}[i] {
				t.Errorf("%d bytes: the list of parts, or its room, has changed at %d", n, i)
			}
		}
	}
}

func TestAnswersAreNew(t *testing.T) { // P2.4
	part := []byte("part")
	first, e := digest.Text("name", part)
	if e != api.OK {
		t.Fatalf("Text: %v", e)
	}
	kept := string(first)
	second, _ := digest.Text("name", part)
	for i := range second[:cap(second)] {
		second[:cap(second)][i] = 'x'
	}
	if string(part) != "part" || string(first) != kept {
		t.Errorf("an answer shares memory: %q, %q", part, first)
	}
	copy(part, "xxxx")
	if string(first) != kept {
		t.Errorf("an answer shares memory with what was handed in: %q", first)
	}
}

func TestNothingIsKept(t *testing.T) { // P2.4
	want := digest.Raw(pattern(100))
	sum := digest.Raw(pattern(100))
	sum[0]++
	digest.Raw(pattern(200))
	digest.Of("other", pattern(10))
	if digest.Raw(pattern(100)) != want {
		t.Errorf("Raw hangs on what was asked before")
	}
}

func TestUnlikeTexts(t *testing.T) { // P2.5
	texts := []string{"", "a", "b", "ab", "\x00", "\x00\x00\x00\x01", "\x00\x00\x00\x01a", "\x00\x00\x00\x00"}
	seen := map[string]string{}
	sums := map[api.Sum]string{}
	look := func(name string, l ...string) {
		told := strings.Join(append([]string{name}, l...), "|")
		b, e := digest.Text(name, parts(l...)...)
		s, f := digest.Of(name, parts(l...)...)
		if e != api.OK || f != api.OK {
			t.Errorf("%q: %v, %v", told, e, f)
		}
		if other, ok := seen[string(b)]; ok {
			t.Errorf("%q and %q have one text", other, told)
		}
		if other, ok := sums[s]; ok {
			t.Errorf("%q and %q have one digest", other, told)
		}
		seen[string(b)], sums[s] = told, told
	}
	for _, name := range texts {
		look(name)
		for _, x := range texts {
			look(name, x)
			for _, y := range texts {
				look(name, x, y)
			}
		}
	}
}

func TestHexAndUnhexUndo(t *testing.T) { // P2.6
	for _, s := range someSums() {
		if back, e := digest.Unhex(digest.Hex(s)); e != api.OK || back != s {
			t.Errorf("Unhex(Hex(%x)): %x, %v", s, back, e)
		}
	}
	for n := range 256 {
		text := hex.EncodeToString(bytes.Repeat([]byte{byte(n), byte(255 - n)}, 16))
		s, e := digest.Unhex(text)
		if e != api.OK || digest.Hex(s) != text {
			t.Errorf("Hex(Unhex(%s)): %s, %v", text, digest.Hex(s), e)
		}
	}
}

func FuzzRaw(f *testing.F) { // P2.1, P2.6
	for _, n := range []int{0, 3, 55, 56, 63, 64, 65, 119, 120} {
		f.Add(pattern(n))
	}
	f.Fuzz(func(t *testing.T, b []byte) {
		s := digest.Raw(b)
		if s != api.Sum(sha256.Sum256(b)) {
			t.Errorf("Raw(%x): %x", b, s)
		}
		if back, e := digest.Unhex(digest.Hex(s)); e != api.OK || back != s {
			t.Errorf("Unhex(Hex(%x)): %x, %v", s, back, e)
		}
		if s, e := digest.Unhex(string(b)); e == api.OK && digest.Hex(s) != string(b) {
			t.Errorf("Hex(Unhex(%q)): %s", b, digest.Hex(s))
		}
	})
}
