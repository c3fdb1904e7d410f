package registry_test

import (
	"bytes"
	"math/rand"
	"slices"
	"strings"
	"testing"

	"vestry/api"
	"vestry/registry"
)

// notSigners are numbers that no signer has.
var notSigners = []int{api.MinInt, -api.MaxWho, -1, 0, api.MaxWho + 1, 256 + 1, 1<<32 + 1, api.MaxInt}

// signed is a registry in which one signer signed these texts.
func signed(t *testing.T, who int, texts ...string) *registry.Registry {
	t.Helper()
	r := registry.New()
	for _, text := range texts {
		mustSign(t, r, who, text)
	}
	return r
}

func mustSign(t *testing.T, r *registry.Registry, who int, text string) {
	t.Helper()
	if e := r.Sign(who, []byte(text)); e != api.OK {
		t.Fatalf("Sign(%d, %d bytes): %v", who, len(text), e)
	}
}

// wantTexts holds all that a registry says of one signer against a list.
func wantTexts(t *testing.T, r *registry.Registry, who int, want ...string) {
	t.Helper()
	var got []string
	for _, text := range r.By(who) {
		got = append(got, string(text))
	}
	if !slices.Equal(got, want) {
		t.Errorf("By(%d): %q, not %q", who, got, want)
	}
	if n := r.Many(who); n != len(want) {
		t.Errorf("Many(%d): %d, not %d", who, n, len(want))
	}
	for n, w := range want {
		if text, ok := r.Text(who, n); !ok || string(text) != w {
			t.Errorf("Text(%d, %d): %q, %v, not %q", who, n, text, ok, w)
		}
		if !r.Knows(who, []byte(w)) {
			t.Errorf("Knows(%d, %q): false", who, w)
		}
	}
	for _, n := range []int{api.MinInt, -1, len(want), len(want) + 1, api.MaxInt} {
		if text, ok := r.Text(who, n); ok || text != nil {
			t.Errorf("Text(%d, %d) of %d: %q, %v", who, n, len(want), text, ok)
		}
	}
}

func wantCount(t *testing.T, r *registry.Registry, want int) {
	t.Helper()
	if n := r.Count(); n != want {
		t.Errorf("Count: %d, not %d", n, want)
	}
}

func TestExampleOfTwoSigners(t *testing.T) { // P3.1, P3.2
	r := registry.New()
	mustSign(t, r, 1, "a")
	mustSign(t, r, 1, "a")
	mustSign(t, r, 2, "b")
	wantCount(t, r, 2)
	if r.Knows(1, []byte("b")) {
		t.Error("Knows(1, b)")
	}
	wantTexts(t, r, 1, "a")
	wantTexts(t, r, 2, "b")
}

func TestExampleOfNoSigners(t *testing.T) { // P3.1
	r := registry.New()
	for _, who := range []int{0, 65} {
		if e := r.Sign(who, []byte("a")); e != api.ErrArg {
			t.Errorf("Sign(%d, a): %v", who, e)
		}
	}
	wantCount(t, r, 0)
}

func TestNewHasNone(t *testing.T) { // P3.1, P3.2
	r := registry.New()
	wantCount(t, r, 0)
	for who := -1; who <= api.MaxWho+1; who++ {
		if r.Knows(who, nil) || r.Knows(who, []byte("a")) {
			t.Errorf("%d is known to have signed", who)
		}
		wantTexts(t, r, who)
	}
	mustSign(t, r, 1, "a")
	wantCount(t, registry.New(), 0)
}

func TestEachSignerSigns(t *testing.T) { // P3.1, P3.4
	r := registry.New()
	for who := 1; who <= api.MaxWho; who++ {
		if r.Knows(who, []byte("a")) {
			t.Errorf("%d is known ahead of signing", who)
		}
		mustSign(t, r, who, "a")
		wantCount(t, r, who)
		wantTexts(t, r, who, "a")
	}
}

func TestSignByNoSigner(t *testing.T) { // P3.1
	r := signed(t, 1, "a")
	mustSign(t, r, api.MaxWho, "a")
	for _, who := range notSigners {
		for _, text := range []string{"", "a", "b"} {
			if e := r.Sign(who, []byte(text)); e != api.ErrArg {
				t.Errorf("Sign(%d, %q): %v", who, text, e)
			}
			if r.Knows(who, []byte(text)) {
				t.Errorf("Knows(%d, %q)", who, text)
			}
		}
		wantTexts(t, r, who)
	}
	wantCount(t, r, 2)
	wantTexts(t, r, 1, "a")
	wantTexts(t, r, api.MaxWho, "a")
}

func TestSignOfLongTexts(t *testing.T) { // P3.1
	r := registry.New()
	most := strings.Repeat("a", api.MaxSigned)
	mustSign(t, r, 1, most)
	wantCount(t, r, 1)
	wantTexts(t, r, 1, most)
	for _, more := range []string{"a", "b", most} {
		if e := r.Sign(1, []byte(most+more)); e != api.ErrLong {
			t.Errorf("Sign of %d bytes: %v", len(most+more), e)
		}
		if r.Knows(1, []byte(most+more)) {
			t.Errorf("Knows %d bytes", len(most+more))
		}
	}
	if r.Knows(1, []byte(most[1:])) || r.Knows(1, []byte(most[1:]+"b")) {
		t.Error("a text that is unlike only at its end is known")
	}
	wantCount(t, r, 1)
	wantTexts(t, r, 1, most)
}

func TestSignTellsTheSignerFirst(t *testing.T) { // P3.1, W4
	r := registry.New()
	for _, who := range notSigners {
		if e := r.Sign(who, make([]byte, api.MaxSigned+1)); e != api.ErrArg {
			t.Errorf("Sign(%d, too long): %v", who, e)
		}
	}
	wantCount(t, r, 0)
}

func TestSignOfTheEmptyText(t *testing.T) { // P3.1, P3.2, W5
	for _, first := range [][]byte{nil, {}} {
		r := registry.New()
		if r.Knows(3, nil) || r.Knows(3, []byte{}) {
			t.Error("the empty text is known ahead of signing")
		}
		for _, text := range [][]byte{first, nil, {}} {
			if e := r.Sign(3, text); e != api.OK {
				t.Errorf("Sign of the empty text: %v", e)
			}
		}
		if !r.Knows(3, nil) || !r.Knows(3, []byte{}) {
			t.Error("the empty text is not known")
		}
		if r.Knows(3, []byte{0}) || r.Knows(2, nil) {
			t.Error("more than the empty text is known")
		}
		wantCount(t, r, 1)
		wantTexts(t, r, 3, "")
	}
}

func TestTextsAreHeldByAllTheirBytes(t *testing.T) { // P3.1
	texts := []string{"\x00", "\x00\x00", "a", "a\x00", "A", "ab", "b", "ba", "\xff", "\xff\xfe", "\xc3\xa4", "\xef\xbf\xbd", "1", "11"}
	r := registry.New()
	for n, text := range texts {
		if r.Knows(1, []byte(text)) {
			t.Errorf("%q is known ahead of signing", text)
		}
		mustSign(t, r, 1, text)
		wantCount(t, r, n+1)
	}
	wantTexts(t, r, 1, texts...)
	// A signer's number must not run into its text.
	if r.Knows(11, []byte("1")) || r.Knows(11, nil) {
		t.Error("a signer and a text are known for another pair")
	}
}

func TestTheOrderIsThatOfTheFirstSigning(t *testing.T) { // P3.2
	r := registry.New()
	for _, text := range []string{"c", "a", "c", "b", "a", "", "c", "aa", "b"} {
		mustSign(t, r, 5, text)
		mustSign(t, r, 6, text+text)
	}
	wantTexts(t, r, 5, "c", "a", "b", "", "aa")
	wantTexts(t, r, 6, "cc", "aa", "bb", "", "aaaa")
	wantCount(t, r, 10)
}

func TestTextByNumber(t *testing.T) { // P3.2
	r := signed(t, 7, "x", "", "y")
	for _, c := range []struct {
		who, n int
		want   string
		ok     bool
	}{
		{7, -1, "", false}, {7, 0, "x", true}, {7, 1, "", true}, {7, 2, "y", true}, {7, 3, "", false},
		{7, api.MinInt, "", false}, {7, api.MaxInt, "", false},
		{6, 0, "", false}, {0, 0, "", false}, {-7, 0, "", false}, {65, 0, "", false},
		{api.MinInt, 0, "", false}, {api.MaxInt, 0, "", false},
	} {
		if text, ok := r.Text(c.who, c.n); string(text) != c.want || ok != c.ok {
			t.Errorf("Text(%d, %d): %q, %v, not %q, %v", c.who, c.n, text, ok, c.want, c.ok)
		}
	}
}

func TestCopyHasTheSame(t *testing.T) { // P3.2
	r := signed(t, 1, "b", "", "a")
	mustSign(t, r, 64, "z")
	for _, c := range []*registry.Registry{r.Copy(), r.Copy().Copy(), r} {
		wantCount(t, c, 4)
		wantTexts(t, c, 1, "b", "", "a")
		wantTexts(t, c, 2)
		wantTexts(t, c, 64, "z")
	}
}

func TestCopyOfNone(t *testing.T) { // P3.2, P3.3
	r := registry.New()
	c := r.Copy()
	wantCount(t, c, 0)
	mustSign(t, c, 1, "a")
	wantTexts(t, c, 1, "a")
	wantCount(t, r, 0)
	wantTexts(t, r, 1)
}

func TestWhatACopySignsTheOtherDoesNotKnow(t *testing.T) { // P3.3
	// With each count of texts a list may have, or may not have, spare room.
	for n := range 20 {
		r := registry.New()
		var had []string
		for i := range n {
			had = append(had, strings.Repeat("t", i+1))
			mustSign(t, r, 1, had[i])
		}
		c := r.Copy()
		mustSign(t, r, 1, "old")
		mustSign(t, r, 2, "old")
		mustSign(t, c, 1, "new")
		mustSign(t, c, 3, "new")
		wantTexts(t, r, 1, append(slices.Clone(had), "old")...)
		wantTexts(t, r, 2, "old")
		wantTexts(t, r, 3)
		wantTexts(t, c, 1, append(slices.Clone(had), "new")...)
		wantTexts(t, c, 2)
		wantTexts(t, c, 3, "new")
		if r.Knows(1, []byte("new")) || r.Knows(3, []byte("new")) || c.Knows(1, []byte("old")) || c.Knows(2, []byte("old")) {
			t.Errorf("with %d texts: what one signed the other knows", n)
		}
		wantCount(t, r, n+2)
		wantCount(t, c, n+2)
	}
}

func TestACopySignsWhatTheOtherSigned(t *testing.T) { // P3.3
	r := signed(t, 1, "a")
	c := r.Copy()
	mustSign(t, r, 1, "b")
	mustSign(t, c, 1, "c")
	mustSign(t, c, 1, "b")
	mustSign(t, c, 1, "a")
	wantTexts(t, r, 1, "a", "b")
	wantTexts(t, c, 1, "a", "c", "b")
}

func TestWhatIsHandedInIsNotKept(t *testing.T) { // P3.3
	r := registry.New()
	room := []byte("abcd")
	text := room[:2]
	if e := r.Sign(1, text); e != api.OK {
		t.Fatal(e)
	}
	if !r.Knows(1, text) || string(room) != "abcd" {
		t.Errorf("what was handed in is %q", room)
	}
	copy(room, "xyzw")
	c := r.Copy()
	for _, r := range []*registry.Registry{r, c} {
		wantTexts(t, r, 1, "ab")
		if r.Knows(1, text) {
			t.Error("a change of what was handed in is known as signed")
		}
	}
	// The same memory with other bytes is another text.
	if e := r.Sign(1, text); e != api.OK {
		t.Fatal(e)
	}
	wantTexts(t, r, 1, "ab", "xy")
	wantTexts(t, c, 1, "ab")
}

func TestWhatIsHandedInIsNotChanged(t *testing.T) { // P3.3
	r := signed(t, 1, "ab")
	for _, who := range []int{0, 1, 2} {
		room := bytes.Repeat([]byte("ab"), api.MaxSigned)
		for _, n := range []int{0, 2, 3, api.MaxSigned, api.MaxSigned + 1} {
			r.Sign(who, room[:n])
			r.Knows(who, room[:n])
		}
		if !bytes.Equal(room, bytes.Repeat([]byte("ab"), api.MaxSigned)) {
			t.Errorf("signer %d: what was handed in was changed", who)
		}
	}
}

// spoil writes over a text, and over its spare room.
func spoil(text []byte) {
	text = text[:cap(text)]
	for i := range text {
		text[i] = '!'
	}
}

func TestWhatIsAnsweredIsNewMemory(t *testing.T) { // P3.3
	r := signed(t, 1, "ab", "", "cd", "efghijkl")
	c := r.Copy()
	texts := r.By(1)
	other := r.By(1)
	spoil(texts[0])
	spoil(texts[1])
	if string(texts[2]) != "cd" || string(texts[3]) != "efghijkl" {
		t.Errorf("two texts of one answer share memory: %q", texts)
	}
	for _, text := range texts {
		spoil(text)
	}
	texts = texts[:cap(texts)]
	clear(texts)
	if string(other[0]) != "ab" || string(other[2]) != "cd" {
		t.Errorf("two answers share memory: %q", other)
	}
	for n := range r.Many(1) {
		text, _ := r.Text(1, n)
		spoil(text)
	}
	wantTexts(t, r, 1, "ab", "", "cd", "efghijkl")
	wantTexts(t, c, 1, "ab", "", "cd", "efghijkl")
	wantCount(t, r, 4)
	mustSign(t, r, 1, "ab")
	wantCount(t, r, 4)
}

func TestOneMakesNothingKnownOfAnother(t *testing.T) { // P3.4
	for _, who := range []int{1, 2, 32, 63, 64} {
		r := signed(t, who, "a", "")
		for other := -1; other <= api.MaxWho+1; other++ {
			if other == who {
				continue
			}
			if r.Knows(other, []byte("a")) || r.Knows(other, nil) {
				t.Errorf("%d signed, %d is known", who, other)
			}
			wantTexts(t, r, other)
		}
	}
}

// model is a registry as a bare list of pairs.
type model []struct {
	who  int
	text string
}

func (m model) by(who int) []string {
	var l []string
	for _, p := range m {
		if p.who == who {
			l = append(l, p.text)
		}
	}
	return l
}

func (m *model) sign(who int, text string) {
	if who >= 1 && who <= api.MaxWho && !slices.Contains(m.by(who), text) {
		*m = append(*m, struct {
			who  int
			text string
		}{who, text})
	}
}

// run takes each three bytes as a call on one of several registries, and holds
// these against their models.
func run(t *testing.T, calls []byte) {
	whos := []int{0, 1, 2, 64, 65}
	rs := []*registry.Registry{registry.New()}
	ms := []model{nil}
	for ; len(calls) >= 3; calls = calls[3:] {
		which := int(calls[0]) % len(rs)
		who := whos[int(calls[1])%len(whos)]
		text := strings.Repeat(string(rune('a'+calls[2]%3)), int(calls[2]/3)%5)
		if calls[0] >= 240 && len(rs) < 6 {
			rs = append(rs, rs[which].Copy())
			ms = append(ms, slices.Clone(ms[which]))
			continue
		}
		known := slices.Contains(ms[which].by(who), text)
		if rs[which].Knows(who, []byte(text)) != known {
			t.Fatalf("Knows(%d, %q) is not %v", who, text, known)
		}
		want := api.OK
		if who < 1 || who > api.MaxWho {
			want = api.ErrArg
		}
		if e := rs[which].Sign(who, []byte(text)); e != want {
			t.Fatalf("Sign(%d, %q): %v", who, text, e)
		}
		ms[which].sign(who, text)
	}
	for i, r := range rs {
		wantCount(t, r, len(ms[i]))
		for _, who := range whos {
			wantTexts(t, r, who, ms[i].by(who)...)
		}
	}
}

func TestWhatIsKnownStaysKnown(t *testing.T) { // P3.1 to P3.4
	source := rand.New(rand.NewSource(3))
	for n := range 400 {
		calls := make([]byte, 3*n)
		source.Read(calls)
		run(t, calls)
	}
}

func FuzzSign(f *testing.F) {
	f.Add([]byte{0, 1, 3, 250, 0, 0, 1, 1, 4, 0, 1, 5})
	f.Fuzz(run)
}
