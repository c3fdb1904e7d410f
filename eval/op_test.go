package eval_test

import (
	"math/rand"
	"strings"
	"testing"

	"vestry/api"
	"vestry/eval"
)

// numbers are some at the ends of what numbers are, at those of what can be
// multiplied, and small ones.
func numbers() []int {
	l := []int{api.MinInt, api.MinInt + 1, api.MinInt + 2, api.MinInt / 2, api.MinInt/2 - 1, api.MinInt/2 + 1, api.MinInt / 3,
		api.MaxInt, api.MaxInt - 1, api.MaxInt - 2, api.MaxInt / 2, api.MaxInt/2 + 1, api.MaxInt / 3,
		3037000499, 3037000500, -3037000499, -3037000500, 1 << 31, 1 << 32, -1 << 31, -1 << 32, 1<<32 + 1, 1 << 62, -1 << 62}
	for n := -9; n <= 9; n++ {
		l = append(l, n)
	}
	return l
}

// texts are some that are right.
func texts() []string {
	return []string{"", "\x00", " ", "'", "0", "1", "A", "NULL", "a", "a\x00", "aa", "ab", "b", "\x7f", "\x80", "\u00e9", "\xff", full[1:], full}
}

// values are some that are right.
func values() []api.Value {
	l := []api.Value{null}
	for _, n := range numbers() {
		l = append(l, num(n))
	}
	for _, s := range texts() {
		l = append(l, text(s))
	}
	return l
}

// wrongs are values that are not right.
func wrongs() []api.Value {
	l := []api.Value{{Num: 1}, {Num: api.MinInt}, {Text: "a"}, {Kind: api.KindNum, Text: "a"}, {Kind: api.KindNum, Num: 5, Text: "a"},
		{Kind: api.KindText, Num: 1}, {Kind: api.KindText, Num: -1, Text: "a"},
		text(full + "z"), text(strings.Repeat("a", 256)), text(strings.Repeat("\u00e9", 21))}
	for _, kind := range noKinds {
		l = append(l, api.Value{Kind: kind}, api.Value{Kind: kind, Num: 1}, api.Value{Kind: kind, Text: "a"})
	}
	return l
}

// noKinds are no kinds of values.
var noKinds = []int{api.MinInt, -1 << 32, -256, -2, -1, 3, 4, 255, 256, 257, 258, 1 << 32, 1<<32 + 1, 1<<32 + 2, api.MaxInt}

// noOps are no operators.
var noOps = []int{api.MinInt, -1 << 32, -256, -2, -1, 0, 14, 15, 16, 255, 256, 257, 269, 1 << 32, 1<<32 + 1, 1<<32 + 13, api.MaxInt}

func wantOp(t *testing.T, o int, a, b, want api.Value) {
	t.Helper()
	if v, code := eval.Op(o, a, b); v != want || code != api.OK {
		t.Errorf("Op(%d, %+v, %+v): %+v, %d, not %+v", o, a, b, v, code, want)
	}
	holdOp(t, o, a, b)
}

func wantOpErr(t *testing.T, want api.Errno, o int, a, b api.Value) {
	t.Helper()
	if v, code := eval.Op(o, a, b); v != null || code != want {
		t.Errorf("Op(%d, %+v, %+v): %+v, %d, not %d", o, a, b, v, code, want)
	}
	holdOp(t, o, a, b)
}

func TestExamplesOfOp(t *testing.T) { // P13.1
	wantOp(t, api.OpAnd, null, num(0), num(0))
	wantOp(t, api.OpOr, null, num(0), null)
	wantOp(t, api.OpEq, null, null, null)
	wantOpErr(t, api.ErrNum, api.OpAdd, num(api.MaxInt), num(1))
	wantOp(t, api.OpDiv, num(-7), num(2), num(-3))
	wantOp(t, api.OpMod, num(-7), num(2), num(-1))
	wantOpErr(t, api.ErrNum, api.OpDiv, num(api.MinInt), num(-1))
	wantOpErr(t, api.ErrType, api.OpLt, num(1), text("a"))
	wantOpErr(t, api.ErrDiv, api.OpMod, num(1), num(0))
	wantOp(t, api.OpMod, num(api.MinInt), num(-1), num(0))
}

func TestJoins(t *testing.T) { // P13.1
	for _, c := range []struct{ a, b, and, or api.Value }{
		{num(0), num(0), num(0), num(0)},
		{num(0), null, num(0), null},
		{num(0), num(1), num(0), num(1)},
		{null, num(0), num(0), null},
		{null, null, null, null},
		{null, num(1), null, num(1)},
		{num(1), num(0), num(0), num(1)},
		{num(1), null, null, num(1)},
		{num(1), num(1), num(1), num(1)},
	} {
		wantOp(t, api.OpAnd, c.a, c.b, c.and)
		wantOp(t, api.OpOr, c.a, c.b, c.or)
		// Each number that is not 0 is true; what comes is yes.
		for _, n := range []int{-1, 2, -2, 1 << 32, api.MinInt, api.MaxInt} {
			a, b := c.a, c.b
			if a == num(1) {
				a = num(n)
			}
			if b == num(1) {
				b = num(n)
			}
			wantOp(t, api.OpAnd, a, b, c.and)
			wantOp(t, api.OpOr, a, b, c.or)
		}
	}
}

func TestJoinsOfTexts(t *testing.T) { // P13.1
	for _, o := range []int{api.OpAnd, api.OpOr} {
		for _, s := range texts() {
			for _, v := range values() {
				// Also where the other one decides, or is null.
				wantOpErr(t, api.ErrType, o, text(s), v)
				wantOpErr(t, api.ErrType, o, v, text(s))
			}
		}
	}
}

func TestTests(t *testing.T) { // P13.1
	for _, c := range []struct {
		a, b  api.Value
		order int
	}{
		{num(1), num(2), -1},
		{num(2), num(2), 0},
		{num(-1), num(0), -1},
		{num(api.MinInt), num(api.MaxInt), -1},
		{num(api.MinInt), num(-1), -1},
		{num(-2), num(api.MaxInt), -1},
		{num(10), num(9), 1},
		{text(""), text(""), 0},
		{text(""), text("\x00"), -1},
		{text("a"), text("ab"), -1},
		{text("10"), text("9"), -1},
		{text("Z"), text("a"), -1},
		{text("\x7f"), text("\x80"), -1},
		{text(full), text(full), 0},
		{text(full), text(full[1:]), 1},
	} {
		for _, x := range []struct {
			op                     int
			ahead, same, behindYes bool
		}{
			{api.OpEq, false, true, false},
			{api.OpNe, true, false, true},
			{api.OpLt, true, false, false},
			{api.OpLe, true, true, false},
			{api.OpGt, false, false, true},
			{api.OpGe, false, true, true},
		} {
			l := []bool{x.ahead, x.same, x.behindYes}
			wantOp(t, x.op, c.a, c.b, truthOf[rankOf(l[c.order+1])])
			wantOp(t, x.op, c.b, c.a, truthOf[rankOf(l[1-c.order])])
		}
	}
}

func TestTestsOfUnlikeKinds(t *testing.T) { // P13.1
	for o := api.OpEq; o <= api.OpGe; o++ {
		for _, s := range texts() {
			for _, n := range numbers() {
				wantOpErr(t, api.ErrType, o, text(s), num(n))
				wantOpErr(t, api.ErrType, o, num(n), text(s))
			}
		}
	}
}

func TestNullWithinOthers(t *testing.T) { // P13.1
	for o := api.OpEq; o <= api.OpMod; o++ {
		for _, v := range values() {
			// Told ahead of ErrType, and of ErrDiv.
			wantOp(t, o, null, v, null)
			wantOp(t, o, v, null, null)
		}
	}
}

func TestSumsOfTexts(t *testing.T) { // P13.1
	for o := api.OpAdd; o <= api.OpMod; o++ {
		for _, s := range texts() {
			for _, v := range values()[1:] {
				// Told ahead of ErrDiv.
				wantOpErr(t, api.ErrType, o, text(s), v)
				wantOpErr(t, api.ErrType, o, v, text(s))
			}
		}
	}
}

func TestSums(t *testing.T) { // P13.1
	const most, least = api.MaxInt, api.MinInt
	for _, c := range []struct{ op, a, b, want int }{
		{api.OpAdd, 2, 3, 5}, {api.OpAdd, most, least, -1}, {api.OpAdd, least, most, -1}, {api.OpAdd, most - 1, 1, most}, {api.OpAdd, least + 1, -1, least}, {api.OpAdd, least, 0, least},
		{api.OpSub, 2, 3, -1}, {api.OpSub, -1, most, least}, {api.OpSub, -1, least, most}, {api.OpSub, least, least, 0}, {api.OpSub, most, 0, most}, {api.OpSub, 0, most, least + 1},
		{api.OpMul, 2, -3, -6}, {api.OpMul, least, 1, least}, {api.OpMul, 1, least, least}, {api.OpMul, least / 2, 2, least}, {api.OpMul, most, -1, least + 1}, {api.OpMul, -1, most, least + 1}, {api.OpMul, least, 0, 0}, {api.OpMul, 0, least, 0}, {api.OpMul, 3037000499, 3037000499, 9223372030926249001},
		{api.OpDiv, 7, 2, 3}, {api.OpDiv, 7, -2, -3}, {api.OpDiv, -7, -2, 3}, {api.OpDiv, 1, 2, 0}, {api.OpDiv, -1, 2, 0}, {api.OpDiv, least, 1, least}, {api.OpDiv, least, 2, least / 2}, {api.OpDiv, most, -1, least + 1}, {api.OpDiv, least, least, 1}, {api.OpDiv, most, least, 0}, {api.OpDiv, least, most, -1},
		{api.OpMod, 7, 2, 1}, {api.OpMod, 7, -2, 1}, {api.OpMod, -7, -2, -1}, {api.OpMod, -1, 2, -1}, {api.OpMod, least, 1, 0}, {api.OpMod, least, most, -1}, {api.OpMod, most, least, most}, {api.OpMod, least, least, 0}, {api.OpMod, 0, 5, 0},
	} {
		wantOp(t, c.op, num(c.a), num(c.b), num(c.want))
	}
	for _, c := range []struct{ op, a, b int }{
		{api.OpAdd, 1, most}, {api.OpAdd, most, most}, {api.OpAdd, least, -1}, {api.OpAdd, -1, least}, {api.OpAdd, least, least},
		{api.OpSub, 0, least}, {api.OpSub, most, least}, {api.OpSub, most, -1}, {api.OpSub, least, 1}, {api.OpSub, -2, most}, {api.OpSub, least, most},
		{api.OpMul, least, -1}, {api.OpMul, -1, least}, {api.OpMul, least, least}, {api.OpMul, most, most}, {api.OpMul, most, least}, {api.OpMul, most, 2}, {api.OpMul, least, 2}, {api.OpMul, 1 << 32, 1 << 32}, {api.OpMul, 1 << 62, 2}, {api.OpMul, -1 << 62, -2}, {api.OpMul, 3037000500, 3037000500},
	} {
		wantOpErr(t, api.ErrNum, c.op, num(c.a), num(c.b))
	}
}

func TestSumsOfSmallNumbers(t *testing.T) { // P13.1
	for o := api.OpAdd; o <= api.OpMod; o++ {
		for a := -60; a <= 60; a++ {
			for b := -60; b <= 60; b++ {
				holdOp(t, o, num(a), num(b))
			}
		}
	}
}

func TestDividedByNothing(t *testing.T) { // P13.1
	for _, n := range numbers() {
		wantOpErr(t, api.ErrDiv, api.OpDiv, num(n), num(0))
		wantOpErr(t, api.ErrDiv, api.OpMod, num(n), num(0))
	}
}

func TestOpOfEverything(t *testing.T) { // P13.1
	for o := -1; o <= 15; o++ {
		for _, a := range values() {
			for _, b := range values() {
				holdOp(t, o, a, b)
			}
		}
	}
}

// some is a number of any length in bits.
func some(r *rand.Rand) int {
	n := int(r.Uint64() >> r.Intn(64))
	if r.Intn(2) == 0 {
		return -n
	}
	return n
}

func TestOpOfRandomNumbers(t *testing.T) { // P13.1
	r := rand.New(rand.NewSource(1))
	for range 20000 {
		a, b := num(some(r)), num(some(r))
		for o := api.OpOr; o <= api.OpMod; o++ {
			holdOp(t, o, a, b)
		}
		// What comes to a number near an end is not often found without looking for it.
		if b.Num != 0 {
			for _, end := range []int{api.MinInt, api.MaxInt} {
				for d := -2; d <= 2; d++ {
					holdOp(t, api.OpMul, num(end/b.Num+d), b)
					holdOp(t, api.OpAdd, num(end-b.Num+d), b)
					holdOp(t, api.OpSub, num(end+b.Num+d), b)
				}
			}
		}
	}
}

func TestOpOfNoOperator(t *testing.T) { // P13.1
	for _, o := range noOps {
		for _, v := range values() {
			wantOpErr(t, api.ErrForm, o, v, num(1))
			wantOpErr(t, api.ErrForm, o, null, v)
			wantOpErr(t, api.ErrForm, o, text("a"), v)
		}
		for _, v := range wrongs() {
			wantOpErr(t, api.ErrForm, o, v, v)
		}
	}
}

func TestOpOfWrongs(t *testing.T) { // P13.1
	others := []api.Value{null, num(0), num(1), num(-1), num(api.MinInt), text(""), text("a")}
	for o := api.OpOr; o <= api.OpMod; o++ {
		for _, v := range wrongs() {
			// Told ahead of all other errors, and of null; ErrForm also of a text that is too long.
			for _, other := range append(others, wrongs()...) {
				wantOpErr(t, api.ErrForm, o, v, other)
				wantOpErr(t, api.ErrForm, o, other, v)
			}
		}
	}
}

// must is what an operator comes to, where it has no error.
func must(t *testing.T, o int, a, b api.Value) api.Value {
	t.Helper()
	v, code := eval.Op(o, a, b)
	if code != api.OK {
		t.Fatalf("Op(%d, %+v, %+v): %d", o, a, b, code)
	}
	return v
}

// inverse is ExprNot of a value.
func inverse(t *testing.T, v api.Value) api.Value {
	t.Helper()
	got, code := eval.Eval(not(valued(v)), nil)
	if code != api.OK {
		t.Fatalf("NOT %+v: %d", v, code)
	}
	return got
}

func TestJoinsGoEitherWay(t *testing.T) { // P13.5
	l := []api.Value{null}
	for _, n := range numbers() {
		l = append(l, num(n))
	}
	for _, ops := range [][2]int{{api.OpAnd, api.OpOr}, {api.OpOr, api.OpAnd}} {
		this, other := ops[0], ops[1]
		for _, a := range l {
			for _, b := range l {
				ab := must(t, this, a, b)
				if ab != must(t, this, b, a) {
					t.Errorf("%d of %+v and %+v is not the other way round", this, a, b)
				}
				if inverse(t, ab) != must(t, other, inverse(t, a), inverse(t, b)) {
					t.Errorf("NOT %d of %+v and %+v is not %d of the NOTs", this, a, b, other)
				}
				for _, c := range l {
					if must(t, this, ab, c) != must(t, this, a, must(t, this, b, c)) {
						t.Errorf("%d of %+v, %+v and %+v hangs on the brackets", this, a, b, c)
					}
				}
			}
		}
	}
}

func TestJustOneTest(t *testing.T) { // P13.6
	for _, a := range values()[1:] {
		for _, b := range values()[1:] {
			if a.Kind != b.Kind {
				continue
			}
			less, same, more := must(t, api.OpLt, a, b), must(t, api.OpEq, a, b), must(t, api.OpGt, a, b)
			if less.Num+same.Num+more.Num != 1 {
				t.Errorf("of %+v and %+v: < %+v, = %+v, > %+v", a, b, less, same, more)
			}
			if must(t, api.OpLe, a, b) != inverse(t, more) || must(t, api.OpGe, a, b) != inverse(t, less) || must(t, api.OpNe, a, b) != inverse(t, same) {
				t.Errorf("of %+v and %+v: <=, >=, <> are not what the other ones are not", a, b)
			}
		}
	}
}

func TestSumsGoBack(t *testing.T) { // P13.7
	r := rand.New(rand.NewSource(2))
	l := numbers()
	for range 200 {
		l = append(l, some(r))
	}
	for _, x := range l {
		for _, y := range l {
			a, b := num(x), num(y)
			if s, code := eval.Op(api.OpAdd, a, b); code == api.OK && must(t, api.OpSub, s, b) != a {
				t.Errorf("%d + %d - %d is another one", x, y, y)
			}
			if d, code := eval.Op(api.OpSub, a, b); code == api.OK && must(t, api.OpAdd, d, b) != a {
				t.Errorf("%d - %d + %d is another one", x, y, y)
			}
			if q, code := eval.Op(api.OpDiv, a, b); code == api.OK {
				left := must(t, api.OpMod, a, b)
				if must(t, api.OpAdd, must(t, api.OpMul, q, b), left) != a {
					t.Errorf("%d / %d * %d + %d %% %d is another one", x, y, y, x, y)
				}
				if left.Num != 0 && (left.Num < 0) != (x < 0) {
					t.Errorf("%d %% %d: %d", x, y, left.Num)
				}
			}
		}
	}
}

func FuzzOp(f *testing.F) { // P13.1
	f.Add(api.OpDiv, 1, api.MinInt, "", 1, -1, "")
	f.Add(api.OpMul, 1, 3037000500, "", 1, 3037000500, "")
	f.Add(api.OpLt, 1, 1, "", 2, 0, "a")
	f.Add(api.OpAnd, 0, 0, "", 1, 0, "")
	f.Fuzz(func(t *testing.T, o, aKind, aNum int, aText string, bKind, bNum int, bText string) {
		holdOp(t, o, api.Value{Kind: aKind, Num: aNum, Text: aText}, api.Value{Kind: bKind, Num: bNum, Text: bText})
	})
}
