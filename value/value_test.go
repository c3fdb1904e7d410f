package value_test

import (
	"bytes"
	"math/big"
	"math/rand"
	"slices"
	"strings"
	"testing"
	"unsafe"

	"vestry/api"
	"vestry/value"
)

// null is the value that is none.
var null = api.Value{}

func num(n int) api.Value     { return api.Value{Kind: api.KindNum, Num: n} }
func text(s string) api.Value { return api.Value{Kind: api.KindText, Text: s} }

// full is a text that has no room left.
var full = strings.Repeat("z", api.MaxText)

// rising are values that are right, in their order.
func rising() []api.Value {
	l := []api.Value{null}
	for _, n := range []int{api.MinInt, api.MinInt + 1, -1 << 40, -65536, -257, -256, -255, -5, -2, -1,
		0, 1, 2, 5, 127, 128, 255, 256, 65535, 1<<32 - 1, 1 << 32, 1 << 40, api.MaxInt - 1, api.MaxInt} {
		l = append(l, num(n))
	}
	for _, s := range []string{"", "\x00", "\x00\x00", "\x00\x00\x00", "\x00\x01", "\x00\xff", "\x00\xff\x00", "\x01", "\x01\x00", " ", "'", "''",
		"-5", "1", "A", "NULL", "a", "a\x00", "a\x00\x00", "a\x00\xff", "a\x01", "aa", "ab", "b", "it's",
		full[1:], full, "\x7f", "\x80", "\u00e9", "\u4e16", "\xff", "\xff\x00", "\xff\xff", strings.Repeat("\xff", api.MaxText)} {
		l = append(l, text(s))
	}
	return l
}

// noKinds are kinds that are none; some are one in their lowest byte.
var noKinds = []int{api.MinInt, api.MinInt + 1, api.MinInt + 2, -256, -255, -254, -2, -1, 3, 4, 127, 128, 255, 256, 257, 258, 1 << 32, 1<<32 + 1, 1<<32 + 2, api.MaxInt - 1, api.MaxInt}

// wrong is a value that is not right, and what Right says of it.
type wrong struct {
	v api.Value
	e api.Errno
}

// wrongs are values that are not right.
func wrongs() []wrong {
	long := full + "z"
	l := []wrong{
		{api.Value{Num: 1}, api.ErrForm},
		{api.Value{Num: -1}, api.ErrForm},
		{api.Value{Num: api.MinInt}, api.ErrForm},
		{api.Value{Text: "a"}, api.ErrForm},
		{api.Value{Text: "\x00"}, api.ErrForm},
		{api.Value{Num: 1, Text: "a"}, api.ErrForm},
		{api.Value{Text: long}, api.ErrForm},
		{api.Value{Kind: api.KindNum, Text: "a"}, api.ErrForm},
		{api.Value{Kind: api.KindNum, Num: 5, Text: "a"}, api.ErrForm},
		{api.Value{Kind: api.KindNum, Num: 5, Text: "\x00"}, api.ErrForm},
		{api.Value{Kind: api.KindNum, Num: 5, Text: long}, api.ErrForm},
		{api.Value{Kind: api.KindText, Num: 1}, api.ErrForm},
		{api.Value{Kind: api.KindText, Num: -1, Text: "a"}, api.ErrForm},
		{api.Value{Kind: api.KindText, Num: api.MaxInt, Text: full}, api.ErrForm},
		{api.Value{Kind: api.KindText, Num: api.MinInt, Text: long}, api.ErrForm},
		{text(long), api.ErrLong},
		{text(strings.Repeat("\x00", api.MaxText+1)), api.ErrLong},
		{text(strings.Repeat("\u00e9", api.MaxText/2) + "e"), api.ErrLong},
		{text(strings.Repeat("\u4e16", api.MaxText)), api.ErrLong},
		{text(strings.Repeat("a", 256)), api.ErrLong},
		{text(strings.Repeat("a", 256+api.MaxText)), api.ErrLong},
		{text(strings.Repeat("a", 100000)), api.ErrLong},
	}
	for _, kind := range noKinds {
		l = append(l,
			wrong{api.Value{Kind: kind}, api.ErrForm},
			wrong{api.Value{Kind: kind, Num: 5}, api.ErrForm},
			wrong{api.Value{Kind: kind, Text: "a"}, api.ErrForm},
			wrong{api.Value{Kind: kind, Num: 5, Text: "a"}, api.ErrForm},
			wrong{api.Value{Kind: kind, Text: long}, api.ErrForm})
	}
	return l
}

// keyOf is a value's key, worked out apart from the package.
func keyOf(v api.Value) string {
	key := string([]byte{byte(v.Kind)})
	if v.Kind == api.KindNum {
		n := new(big.Int).Add(big.NewInt(int64(v.Num)), new(big.Int).Lsh(big.NewInt(1), 63))
		key += string(n.FillBytes(make([]byte, 8)))
	}
	if v.Kind == api.KindText {
		key += strings.ReplaceAll(v.Text, "\x00", "\x00\xff") + "\x00\x00"
	}
	return key
}

// rowOf is a row, worked out apart from the package.
func rowOf(l []api.Value) string {
	row := ""
	for _, v := range l {
		row += keyOf(v)
	}
	return row
}

// someTails are what may stand behind a key.
var someTails = []string{"", "\x00", "\x01", "\x02", "\xff", "\x00\x00", "\x00\xff", "a", "\x02\x00\x00", strings.Repeat("\xff", 20), strings.Repeat("\x00", 50)}

func TestRight(t *testing.T) { // P7.1
	for _, v := range rising() {
		if e := value.Right(v); e != api.OK {
			t.Errorf("Right(%#v): %v", v, e)
		}
	}
	if e := value.Right(text(strings.Repeat("\u00e9", api.MaxText/2))); e != api.OK {
		t.Errorf("Right of a text of %d bytes: %v", api.MaxText, e)
	}
	for _, c := range wrongs() {
		if e := value.Right(c.v); e != c.e {
			t.Errorf("Right(%#v): %v, not %v", c.v, e, c.e)
		}
	}
}

func TestRightOfEveryLength(t *testing.T) { // P7.1
	for n := range 3 * api.MaxText {
		want := api.OK
		if n > 40 {
			want = api.ErrLong
		}
		if e := value.Right(text(strings.Repeat("a", n))); e != want {
			t.Errorf("Right of a text of %d bytes: %v", n, e)
		}
	}
}

func TestExamplesOfCompare(t *testing.T) { // P7.1
	for _, c := range [][2]api.Value{{null, num(-5)}, {num(-5), text("")}, {text("a"), text("ab")}} {
		if got := value.Compare(c[0], c[1]); got != -1 {
			t.Errorf("Compare(%#v, %#v): %d", c[0], c[1], got)
		}
	}
}

// wantRising holds Compare against a row of values of which each stands ahead of the next.
func wantRising(t *testing.T, l []api.Value) {
	t.Helper()
	for i, a := range l {
		for k, b := range l {
			want := 0
			if i < k {
				want = -1
			}
			if i > k {
				want = 1
			}
			b.Text = strings.Clone(b.Text)
			if got := value.Compare(a, b); got != want {
				t.Errorf("Compare(%#v, %#v): %d, not %d", a, b, got, want)
			}
		}
	}
}

func TestCompare(t *testing.T) { // P7.1
	wantRising(t, rising())
}

func TestCompareOfValuesThatAreNotRight(t *testing.T) { // P7.1
	long := full + "z"
	wantRising(t, []api.Value{
		{Kind: api.MinInt, Num: api.MaxInt, Text: "z"},
		{Kind: -256, Num: 5},
		{Kind: -1, Num: api.MinInt},
		{Kind: -1, Text: "a"},
		{Kind: -1, Num: api.MaxInt},
		{Num: api.MinInt, Text: "z"},
		{Num: -1},
		null,
		{Text: "\x00"},
		{Text: "a"},
		{Text: long},
		{Num: 1},
		{Num: 1, Text: "a"},
		{Num: api.MaxInt},
		{Kind: api.KindNum, Num: -5, Text: long},
		{Kind: api.KindNum, Num: -4},
		{Kind: api.KindNum, Num: -4, Text: "a"},
		{Kind: api.KindNum, Num: -4, Text: "ab"},
		{Kind: api.KindNum, Num: 1 << 32},
		{Kind: api.KindText, Num: api.MinInt, Text: "z"},
		{Kind: api.KindText, Num: -1, Text: "z"},
		text(""),
		text(full),
		text(long),
		text(long + "\x00"),
		{Kind: api.KindText, Num: 1},
		{Kind: api.KindText, Num: 1, Text: "a"},
		{Kind: 3},
		{Kind: 256, Num: -1},
		{Kind: 1 << 32},
		{Kind: api.MaxInt, Num: api.MinInt},
		{Kind: api.MaxInt, Num: api.MaxInt, Text: "a"},
	})
}

func TestExamplesOfKey(t *testing.T) { // P7.2
	for _, c := range []struct {
		v    api.Value
		want string
	}{
		{null, "\x00"},
		{text("a"), "\x02a\x00\x00"},
		{text(""), "\x02\x00\x00"},
		{text("a\x00"), "\x02a\x00\xff\x00\x00"},
		{num(0), "\x01\x80\x00\x00\x00\x00\x00\x00\x00"},
		{num(-1), "\x01\x7f\xff\xff\xff\xff\xff\xff\xff"},
		{num(258), "\x01\x80\x00\x00\x00\x00\x00\x01\x02"},
		{num(api.MinInt), "\x01\x00\x00\x00\x00\x00\x00\x00\x00"},
		{num(api.MaxInt), "\x01\xff\xff\xff\xff\xff\xff\xff\xff"},
	} {
		if b, e := value.Key(c.v); string(b) != c.want || e != api.OK {
			t.Errorf("Key(%#v): % x, %v", c.v, b, e)
		}
	}
}

func TestKey(t *testing.T) { // P7.2
	for _, v := range rising() {
		if b, e := value.Key(v); string(b) != keyOf(v) || e != api.OK {
			t.Errorf("Key(%#v): % x, %v, not % x", v, b, e, keyOf(v))
		}
	}
	for _, c := range wrongs() {
		if b, e := value.Key(c.v); len(b) != 0 || e != c.e {
			t.Errorf("Key(%#v): % x, %v, not %v", c.v, b, e, c.e)
		}
	}
}

func wantTaken(t *testing.T, b string, v api.Value, n int, e api.Errno) {
	t.Helper()
	if gotV, gotN, gotE := value.TakeKey([]byte(b)); gotV != v || gotN != n || gotE != e {
		t.Errorf("TakeKey(% x): %#v, %d, %v, not %#v, %d, %v", b, gotV, gotN, gotE, v, n, e)
	}
}

func TestTakeKey(t *testing.T) { // P7.2, P7.6
	for _, v := range rising() {
		for _, tail := range someTails {
			wantTaken(t, keyOf(v)+tail, v, len(keyOf(v)), api.OK)
		}
	}
}

func TestTakeKeyCutOff(t *testing.T) { // P7.2
	wantTaken(t, "", null, 0, api.ErrEnd)
	if v, n, e := value.TakeKey(nil); v != null || n != 0 || e != api.ErrEnd {
		t.Errorf("TakeKey(nil): %v, %d, %v", v, n, e)
	}
	for _, v := range rising() {
		key := keyOf(v)
		for i := range key {
			wantTaken(t, key[:i], null, 0, api.ErrEnd)
		}
	}
}

func TestTakeKeyOfNoKind(t *testing.T) { // P7.2
	for kind := 3; kind < 256; kind++ {
		for _, tail := range someTails {
			wantTaken(t, string([]byte{byte(kind)})+tail, null, 0, api.ErrForm)
		}
	}
}

func TestTakeKeyWrong(t *testing.T) { // P7.2
	for c := 1; c < 255; c++ {
		wantTaken(t, "\x02a\x00"+string([]byte{byte(c)})+"\x00\x00", null, 0, api.ErrForm)
	}
	long := full + "z"
	for _, c := range []struct {
		b    string
		want api.Errno
	}{
		{"\x02" + long + "\x00\x00", api.ErrLong},
		{"\x02" + long + "\x00\x00\x00", api.ErrLong},
		{"\x02" + strings.Repeat("\x00\xff", api.MaxText+1) + "\x00\x00", api.ErrLong},
		{"\x02" + strings.Repeat("a", 100000) + "\x00\x00", api.ErrLong},
		{"\x02" + strings.Repeat("a", 256) + "\x00\x00", api.ErrLong},
		// What plain says of the bytes is told ahead of their length.
		{"\x02" + long, api.ErrEnd},
		{"\x02" + long + "\x00", api.ErrEnd},
		{"\x02" + long + "\x00\xff", api.ErrEnd},
		{"\x02" + long + "\x00\x07", api.ErrForm},
		{"\x02" + strings.Repeat("a", 100000) + "\x00\x01\x00\x00", api.ErrForm},
		{"\x02", api.ErrEnd},
		{"\x02\x00", api.ErrEnd},
		{"\x02\x00\x07", api.ErrForm},
		{"\x02\x00\xff", api.ErrEnd},
		{"\x01", api.ErrEnd},
		{"\x01\x80\x00\x00\x00\x00\x00\x00", api.ErrEnd},
	} {
		wantTaken(t, c.b, null, 0, c.want)
	}
	wantTaken(t, "\x02"+full+"\x00\x00", text(full), api.MaxText+3, api.OK)
	zeros := strings.Repeat("\x00", api.MaxText)
	wantTaken(t, "\x02"+strings.Repeat("\x00\xff", api.MaxText)+"\x00\x00\x00", text(zeros), 2*api.MaxText+3, api.OK)
}

func wantRow(t *testing.T, want string, e api.Errno, l ...api.Value) {
	t.Helper()
	if b, gotE := value.Row(l...); string(b) != want || gotE != e {
		t.Errorf("Row(%#v): % x, %v, not % x, %v", l, b, gotE, want, e)
	}
}

func wantTakenRow(t *testing.T, b string, want []api.Value, e api.Errno) {
	t.Helper()
	if l, gotE := value.TakeRow([]byte(b)); !slices.Equal(l, want) || gotE != e {
		t.Errorf("TakeRow(% x): %#v, %v, not %#v, %v", b, l, gotE, want, e)
	}
}

func TestRow(t *testing.T) { // P7.3
	wantRow(t, "", api.OK)
	wantRow(t, "", api.OK, []api.Value{}...)
	wantRow(t, "\x00\x02a\x00\x00", api.OK, null, text("a"))
	wantRow(t, "\x02\x00\x00\x00\x01\x80\x00\x00\x00\x00\x00\x00\x05", api.OK, text(""), null, num(5))
	values := rising()
	for i := range values {
		for n := range api.MaxColumns + 1 {
			l := values[i:min(i+n, len(values))]
			wantRow(t, rowOf(l), api.OK, l...)
			wantTakenRow(t, rowOf(l), l, api.OK)
		}
	}
	widest := slices.Repeat([]api.Value{text(strings.Repeat("\x00", api.MaxText))}, api.MaxColumns)
	wantRow(t, rowOf(widest), api.OK, widest...)
	wantTakenRow(t, rowOf(widest), widest, api.OK)
}

func TestRowOfTooMany(t *testing.T) { // P7.3
	for _, n := range []int{api.MaxColumns + 1, api.MaxColumns + 2, 2 * api.MaxColumns, 256, 257, 10000} {
		for _, v := range []api.Value{null, num(5), text("a"), {Kind: 3}, text(full + "z")} {
			// Told ahead of what is wrong with one.
			wantRow(t, "", api.ErrLong, slices.Repeat([]api.Value{v}, n)...)
		}
	}
}

func TestRowOfWrongs(t *testing.T) { // P7.3
	for _, c := range wrongs() {
		for n := range api.MaxColumns {
			l := slices.Repeat([]api.Value{text("a")}, api.MaxColumns)
			l[n] = c.v
			wantRow(t, "", c.e, l...)
			wantRow(t, "", c.e, l[:n+1]...)
		}
	}
	long, other := text(full+"z"), api.Value{Kind: 3}
	wantRow(t, "", api.ErrLong, null, long, other)
	wantRow(t, "", api.ErrForm, null, other, long)
	wantRow(t, "", api.ErrLong, long, null, null, null, null, null, null, other)
	wantRow(t, "", api.ErrForm, other, null, null, null, null, null, null, long)
}

func TestTakeRowOfNothing(t *testing.T) { // P7.3
	wantTakenRow(t, "", nil, api.OK)
	if l, e := value.TakeRow(nil); len(l) != 0 || e != api.OK {
		t.Errorf("TakeRow(nil): %v, %v", l, e)
	}
}

// badKeys are bytes that no key begins, and what TakeKey says of them.
var badKeys = []struct {
	b string
	e api.Errno
}{
	{"\x01", api.ErrEnd},
	{"\x01\x80\x00\x00\x00\x00\x00\x00", api.ErrEnd},
	{"\x02", api.ErrEnd},
	{"\x02ab\x00", api.ErrEnd},
	{"\x02\x00\x07\x00\x00", api.ErrForm},
	{"\x03", api.ErrForm},
	{"\xff\x00\x00", api.ErrForm},
	{"\x02" + strings.Repeat("a", api.MaxText+1) + "\x00\x00", api.ErrLong},
	{"\x02" + strings.Repeat("a", api.MaxText+1) + "\x00\x00\x03", api.ErrLong},
}

func TestTakeRowWrong(t *testing.T) { // P7.3
	for _, ahead := range []string{"\x00", "\x02a\x00\x00", "\x01\x00\x00\x00\x00\x00\x00\x00\x00"} {
		for n := range api.MaxColumns {
			for _, c := range badKeys {
				wantTakenRow(t, strings.Repeat(ahead, n)+c.b, nil, c.e)
			}
			// Of the first one, though there would be too many behind it.
			wantTakenRow(t, strings.Repeat(ahead, n)+"\x03"+strings.Repeat(ahead, 20), nil, api.ErrForm)
			wantTakenRow(t, strings.Repeat(ahead, n)+"\x02\x00\x07"+strings.Repeat(ahead, 20), nil, api.ErrForm)
		}
	}
	wantTakenRow(t, "\x03\x01", nil, api.ErrForm)
	wantTakenRow(t, "\x00\x01", nil, api.ErrEnd)
}

func TestTakeRowOfTooMany(t *testing.T) { // P7.3
	for _, v := range []api.Value{null, num(5), text("a"), text("")} {
		key := keyOf(v)
		eight := strings.Repeat(key, api.MaxColumns)
		wantTakenRow(t, eight, slices.Repeat([]api.Value{v}, api.MaxColumns), api.OK)
		for _, tail := range []string{key, "\x00", key + key, strings.Repeat(key, 1000), "\x00\x03", "\x00\x01"} {
			wantTakenRow(t, eight+tail, nil, api.ErrLong)
		}
		// Whatever is wrong with a ninth one.
		for _, c := range badKeys {
			wantTakenRow(t, eight+c.b, nil, api.ErrLong)
		}
	}
}

func TestLiteral(t *testing.T) { // P7.4
	for _, c := range []struct {
		v    api.Value
		want string
	}{
		{null, "NULL"},
		{num(0), "0"},
		{num(-5), "-5"},
		{num(5), "5"},
		{num(99), "99"},
		{num(100), "100"},
		{num(-100), "-100"},
		{num(api.MaxInt), "9223372036854775807"},
		{num(api.MinInt), "-9223372036854775808"},
		{text(""), "''"},
		{text("a"), "'a'"},
		{text("it's"), "'it''s'"},
		{text("'"), "''''"},
		{text("''"), "''''''"},
		{text("'a'"), "'''a'''"},
		{text("a''b"), "'a''''b'"},
		{text("NULL"), "'NULL'"},
		{text("-5"), "'-5'"},
		{text("\"`\\n\\'"), "'\"`\\n\\'''"},
		{text("\x00\n\t -- x"), "'\x00\n\t -- x'"},
		{text("\xff\u00e9\u4e16\x80"), "'\xff\u00e9\u4e16\x80'"},
		{text(full), "'" + full + "'"},
		{text(strings.Repeat("'", api.MaxText)), strings.Repeat("'", 2*api.MaxText+2)},
	} {
		if s := value.Literal(c.v); s != c.want {
			t.Errorf("Literal(%#v): %q, not %q", c.v, s, c.want)
		}
	}
}

func TestLiteralOfValuesThatAreNotRight(t *testing.T) { // P7.4
	long := strings.Repeat("a'", 10000)
	for _, c := range []struct {
		v    api.Value
		want string
	}{
		{api.Value{Num: 5}, "NULL"},
		{api.Value{Text: "a"}, "NULL"},
		{api.Value{Kind: api.KindNum, Num: -5, Text: "a"}, "-5"},
		{api.Value{Kind: api.KindText, Num: 5}, "''"},
		{api.Value{Kind: api.KindText, Num: 5, Text: "it's"}, "'it''s'"},
		{text(long), "'" + strings.Repeat("a''", 10000) + "'"},
	} {
		if s := value.Literal(c.v); s != c.want {
			t.Errorf("Literal(%#v): %q, not %q", c.v, s, c.want)
		}
	}
	for _, kind := range noKinds {
		for _, v := range []api.Value{{Kind: kind}, {Kind: kind, Num: 5}, {Kind: kind, Text: "a"}, {Kind: kind, Num: 5, Text: "a"}} {
			if s := value.Literal(v); s != "NULL" {
				t.Errorf("Literal(%#v): %q", v, s)
			}
		}
	}
}

// roomy is s with spare room behind it, which holds a mark.
func roomy(s string) []byte {
	return append([]byte(s), bytes.Repeat([]byte{0xa5}, 64)...)[:len(s)]
}

// unspoilt tells whether a roomy s is as it was made.
func unspoilt(b []byte, s string) bool {
	return string(b[:len(s)+64]) == s+strings.Repeat("\xa5", 64)
}

// spoil writes over all that a list has, its spare room too.
func spoil(b []byte) {
	b = b[:cap(b)]
	for i := range b {
		b[i] = 0xee
	}
}

func TestMemoryOfWriters(t *testing.T) { // P7.5
	for _, given := range [][]api.Value{{text("b"), null, num(5)}, {text("b"), {Kind: 3}, num(5)}} {
		room := append(slices.Clone(given), num(77), num(78))
		value.Row(room[:len(given)]...)
		if !slices.Equal(room, append(slices.Clone(given), num(77), num(78))) {
			t.Errorf("Row changed %#v to %#v", given, room)
		}
	}
	for _, v := range rising() {
		first, _ := value.Key(v)
		second, _ := value.Key(v)
		row, _ := value.Row(v, v)
		spoil(first)
		again, _ := value.Key(v)
		if string(second) != keyOf(v) || string(again) != keyOf(v) || string(row) != keyOf(v)+keyOf(v) {
			t.Errorf("an answer of %#v has the memory of an earlier one", v)
		}
		spoil(row)
		if b, _ := value.Row(v, v); string(b) != keyOf(v)+keyOf(v) {
			t.Errorf("a row of %#v has the memory of an earlier one", v)
		}
	}
	given := "a text in memory of its own"
	if s := value.Literal(text(given)); within(s, given) {
		t.Errorf("Literal's answer %q is a piece of what was handed in", s)
	}
}

// within tells whether a text that is not empty begins in another one's memory.
func within(s, of string) bool {
	at, from := uintptr(unsafe.Pointer(unsafe.StringData(s))), uintptr(unsafe.Pointer(unsafe.StringData(of)))
	return from <= at && at < from+uintptr(len(of))
}

func TestMemoryOfTakers(t *testing.T) { // P7.5
	l := []api.Value{text("first"), null, num(5), text("second\x00")}
	for _, tail := range []string{"", "\x03"} {
		row := rowOf(l) + tail
		b := roomy(row)
		v, _, _ := value.TakeKey(b)
		got, e := value.TakeRow(b)
		if !unspoilt(b, row) {
			t.Errorf("what was handed in is changed: % x", b)
		}
		spoil(b)
		if v != l[0] || e == api.OK && !slices.Equal(got, l) {
			t.Errorf("an answer changed with its argument: %#v, %#v", v, got)
		}
	}
	row := []byte(rowOf(l))
	first, _ := value.TakeRow(row)
	second, _ := value.TakeRow(row)
	first = first[:cap(first)]
	for i := range first {
		first[i] = num(99)
	}
	if again, _ := value.TakeRow(row); !slices.Equal(second, l) || !slices.Equal(again, l) {
		t.Errorf("TakeRow's answer shares memory with an earlier one: %#v, %#v", second, again)
	}
}

func TestKeysStandAsTheirValues(t *testing.T) { // P7.6
	values := rising()
	for i, a := range values {
		for _, b := range values[i+1:] {
			keyA, _ := value.Key(a)
			keyB, _ := value.Key(b)
			if bytes.HasPrefix(keyA, keyB) || bytes.HasPrefix(keyB, keyA) {
				t.Errorf("the key of one of %#v and %#v is the beginning of the other's", a, b)
			}
			for _, tailA := range someTails {
				for _, tailB := range someTails {
					if string(keyA)+tailA >= string(keyB)+tailB {
						t.Errorf("the key of %#v and %q does not stand ahead of that of %#v and %q", a, tailA, b, tailB)
					}
				}
			}
		}
	}
}

// someRow is a row of any values that are right, often of those that are hard to tell apart.
func someRow(source *rand.Rand, values []api.Value) []api.Value {
	l := make([]api.Value, source.Intn(api.MaxColumns+1))
	for i := range l {
		switch source.Intn(4) {
		case 0:
			l[i] = num(int(source.Uint64()) >> source.Intn(64))
		case 1:
			b := make([]byte, source.Intn(api.MaxText+1))
			for k := range b {
				b[k] = []byte{0, 0, 1, 2, 254, 255, 'a', byte(source.Intn(256))}[source.Intn(8)]
			}
			l[i] = text(string(b))
		default:
			l[i] = values[source.Intn(len(values))]
		}
	}
	return l
}

// compareRows orders rows by the first values that differ, worked out with Compare.
func compareRows(a, b []api.Value) int {
	for i := range min(len(a), len(b)) {
		if c := value.Compare(a[i], b[i]); c != 0 {
			return c
		}
	}
	return len(a) - len(b)
}

func sign(n int) int { return min(1, max(-1, n)) }

func TestRowsAreTakenAsTheyWereWritten(t *testing.T) { // P7.3, P7.6
	source := rand.New(rand.NewSource(7))
	values := rising()
	var last []api.Value
	lastRow := []byte(nil)
	for range 50000 {
		l := someRow(source, values)
		b, e := value.Row(l...)
		if e != api.OK || string(b) != rowOf(l) {
			t.Fatalf("Row(%#v): % x, %v", l, b, e)
		}
		if got, e := value.TakeRow(b); e != api.OK || !slices.Equal(got, l) {
			t.Fatalf("TakeRow of %#v: %#v, %v", l, got, e)
		}
		if bytes.Compare(b, lastRow) != sign(compareRows(l, last)) {
			t.Fatalf("the rows of %#v and %#v do not stand as their values", l, last)
		}
		last, lastRow = l, b
	}
}

// holdTaken holds what TakeKey and TakeRow say of b against the promises' words.
func holdTaken(t *testing.T, b []byte) {
	t.Helper()
	v, n, e := value.TakeKey(b)
	if e == api.OK {
		if key, ke := value.Key(v); ke != api.OK || n > len(b) || !bytes.Equal(key, b[:n]) {
			t.Errorf("TakeKey(% x): %#v, %d, which is not written so", b, v, n)
		}
	} else if v != null || n != 0 {
		t.Errorf("TakeKey(% x): %#v, %d beside %v", b, v, n, e)
	}
	var want []api.Value
	wantE := api.OK
	for rest := b; len(rest) > 0; {
		v, n, e := value.TakeKey(rest)
		if len(want) == 8 {
			want, wantE = nil, api.ErrLong
			break
		}
		if e != api.OK {
			want, wantE = nil, e
			break
		}
		want, rest = append(want, v), rest[n:]
	}
	l, e := value.TakeRow(b)
	if e != wantE || !slices.Equal(l, want) {
		t.Errorf("TakeRow(% x): %#v, %v, not %#v, %v", b, l, e, want, wantE)
	}
	if row, re := value.Row(l...); e == api.OK && (re != api.OK || !bytes.Equal(row, b)) {
		t.Errorf("TakeRow(% x): %#v, which is written % x, %v", b, l, row, re)
	}
}

func TestWhatIsTakenWasWritten(t *testing.T) { // P7.6
	few := []byte{0, 1, 2, 3, 'a', 255}
	var grow func(b []byte)
	grow = func(b []byte) {
		holdTaken(t, b)
		if len(b) == 7 {
			return
		}
		for _, c := range few {
			grow(append(slices.Clone(b), c))
		}
	}
	grow(nil)
	source := rand.New(rand.NewSource(8))
	for range 100000 {
		b := make([]byte, source.Intn(60))
		for i := range b {
			b[i] = few[source.Intn(len(few))]
		}
		holdTaken(t, b)
	}
}

func TestCompareIsAnOrder(t *testing.T) { // P7.7
	values := rising()
	for _, c := range wrongs() {
		values = append(values, c.v)
	}
	of := make([][]int, len(values))
	for i, a := range values {
		of[i] = make([]int, len(values))
		for k, b := range values {
			of[i][k] = value.Compare(a, b)
			if (of[i][k] == 0) != (a == b) || of[i][k] != sign(of[i][k]) {
				t.Errorf("Compare(%#v, %#v): %d", a, b, of[i][k])
			}
		}
	}
	for a := range values {
		for b := range values {
			if of[a][b] != -of[b][a] {
				t.Errorf("Compare of %#v and %#v: %d, and the other way round %d", values[a], values[b], of[a][b], of[b][a])
			}
			for c := range values {
				if of[a][b] < 0 && of[b][c] < 0 && of[a][c] >= 0 {
					t.Errorf("%#v stands ahead of %#v, that of %#v, the first not of the last", values[a], values[b], values[c])
				}
			}
		}
	}
}

func TestNothingIsKept(t *testing.T) { // W2
	for range 3 {
		for _, v := range rising() {
			if b, e := value.Key(v); string(b) != keyOf(v) || e != api.OK {
				t.Errorf("Key(%#v): % x, %v", v, b, e)
			}
			wantTaken(t, keyOf(v), v, len(keyOf(v)), api.OK)
		}
		wantRow(t, "", api.ErrForm, api.Value{Kind: 3})
		wantTakenRow(t, "\x00\x03", nil, api.ErrForm)
	}
}

func FuzzTake(f *testing.F) { // P7.2, P7.3, P7.6
	f.Add([]byte("\x00\x02a\x00\x00\x01\x80\x00\x00\x00\x00\x00\x00\x05"))
	f.Add([]byte("\x02a\x00\xff\x00\x00\x03"))
	f.Add([]byte("\x02\x00\x07"))
	f.Add(make([]byte, api.MaxColumns+1))
	f.Add([]byte("\x02" + full + "z\x00\x00"))
	f.Fuzz(func(t *testing.T, b []byte) { holdTaken(t, b) })
}
