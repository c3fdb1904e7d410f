package eval_test

import (
	"math/rand"
	"slices"
	"strings"
	"testing"

	"vestry/api"
	"vestry/check"
	"vestry/eval"
	"vestry/parse"
)

func wantEval(t *testing.T, want api.Value, e api.Expr, row ...api.Value) {
	t.Helper()
	if v, code := hold(t, e, row); v != want || code != api.OK {
		t.Errorf("Eval(%s, %+v): %+v, %d, not %+v", brief(e), row, v, code, want)
	}
}

func wantEvalErr(t *testing.T, want api.Errno, e api.Expr, row ...api.Value) {
	t.Helper()
	if v, code := hold(t, e, row); v != null || code != want {
		t.Errorf("Eval(%s, %+v): %+v, %d, not %d", brief(e), row, v, code, want)
	}
	if is, code := eval.True(e, row); is || code != want {
		t.Errorf("True(%s, %+v): %v, %d, not %d", brief(e), row, is, code, want)
	}
}

func wantTrue(t *testing.T, want bool, wantCode api.Errno, e api.Expr, row ...api.Value) {
	t.Helper()
	if is, code := eval.True(e, row); is != want || code != wantCode {
		t.Errorf("True(%s, %+v): %v, %d, not %v, %d", brief(e), row, is, code, want, wantCode)
	}
	hold(t, e, row)
}

func TestValues(t *testing.T) { // P13.2
	for _, v := range values() {
		wantEval(t, v, valued(v))
		wantEval(t, v, valued(v), num(7), text("a"))
	}
	for _, v := range wrongs() {
		wantEvalErr(t, api.ErrForm, valued(v))
		wantEvalErr(t, api.ErrForm, valued(v), v, num(7))
	}
}

func TestColumns(t *testing.T) { // P13.2
	l := values()
	for i, v := range l {
		wantEval(t, v, column(i), l...)
		wantEval(t, v, column(0), v)
		wantEval(t, v, column(8), append(l[:8:8], v)...)
	}
	wantEvalErr(t, api.ErrColumn, column(len(l)), l...)
	for _, n := range []int{-1, -2, 3, 4, 255, 256, 257, 1 << 32, 1<<32 + 1, -1 << 32, api.MinInt, api.MinInt + 1, api.MaxInt} {
		wantEvalErr(t, api.ErrColumn, column(n), l[:3]...)
		wantEvalErr(t, api.ErrColumn, column(n))
	}
	wantEvalErr(t, api.ErrColumn, column(0))
	// What stands behind the row is none of it.
	wantEvalErr(t, api.ErrColumn, column(2), l[:2]...)
}

func TestColumnsOfNoNumber(t *testing.T) { // P13.2
	wrong := text(full + "z")
	for _, row := range [][]api.Value{nil, {num(7)}, {wrong}, {num(7), num(8), wrong}} {
		for _, at := range []api.Value{null, text(""), text("0"), text("a"), {Num: 1}, {Kind: api.KindText, Num: 1}, {Kind: 3}, {Kind: -1, Num: 1}, {Kind: 257, Num: 1}, {Kind: api.MinInt}} {
			wantEvalErr(t, api.ErrColumn, api.Expr{Kind: api.ExprColumn, Value: at}, row...)
		}
	}
	// By its Kind it is one.
	wantEval(t, num(8), api.Expr{Kind: api.ExprColumn, Value: api.Value{Kind: api.KindNum, Num: 1, Text: "a"}}, num(7), num(8))
}

func TestColumnsOfWrongValues(t *testing.T) { // P13.2
	for _, v := range wrongs() {
		wantEvalErr(t, api.ErrForm, column(0), v)
		wantEvalErr(t, api.ErrForm, column(1), num(7), v, num(8))
		wantEvalErr(t, api.ErrForm, isnt(column(1)), num(7), v, num(8))
		// The others are not looked at.
		wantEval(t, num(7), column(0), num(7), v, v)
		wantEval(t, num(8), column(2), v, v, num(8))
		wantEval(t, num(5), valued(num(5)), v, v)
	}
}

func TestOpOfArgs(t *testing.T) { // P13.2
	some := append(values()[:12], text("a"), text(""), num(0), num(1), num(-1))
	for o := -1; o <= 15; o++ {
		for _, a := range some {
			for _, b := range some {
				want, wantCode := opOf(o, a, b)
				for _, e := range []api.Expr{op(o, valued(a), valued(b)), op(o, column(0), column(1)), op(o, valued(a), column(1))} {
					if wantCode == api.OK {
						wantEval(t, want, e, a, b)
					} else {
						wantEvalErr(t, wantCode, e, a, b)
					}
				}
			}
		}
	}
	for _, o := range noOps {
		wantEvalErr(t, api.ErrForm, op(o, valued(num(1)), valued(num(2))))
	}
}

func TestNot(t *testing.T) { // P13.2
	wantEval(t, null, not(valued(null)))
	wantEval(t, num(1), not(valued(num(0))))
	for _, n := range numbers() {
		if n != 0 {
			wantEval(t, num(0), not(valued(num(n))))
			wantEval(t, num(1), not(not(column(0))), num(n))
		}
	}
	for _, s := range texts() {
		wantEvalErr(t, api.ErrType, not(valued(text(s))))
	}
}

func TestNeg(t *testing.T) { // P13.2
	wantEval(t, null, neg(valued(null)))
	for _, n := range numbers() {
		if n != api.MinInt {
			wantEval(t, num(-n), neg(valued(num(n))))
			wantEval(t, num(n), neg(neg(column(0))), num(n))
		}
	}
	wantEvalErr(t, api.ErrNum, neg(valued(num(api.MinInt))))
	for _, s := range texts() {
		wantEvalErr(t, api.ErrType, neg(valued(text(s))))
	}
}

func TestIsNull(t *testing.T) { // P13.2
	for _, v := range values() {
		want := num(0)
		if v == null {
			want = num(1)
		}
		wantEval(t, want, isnt(valued(v)))
		wantEval(t, want, isnt(column(0)), v)
		wantEval(t, num(0), isnt(isnt(column(0))), v)
	}
}

func TestOtherKinds(t *testing.T) { // P13.2
	one := valued(num(1))
	for _, kind := range []int{api.MinInt, -1 << 32, -256, -1, 0, 7, 8, 255, 256, 257, 259, 262, 1 << 32, 1<<32 + 1, 1<<32 + 3, api.MaxInt} {
		wantEvalErr(t, api.ErrForm, api.Expr{Kind: kind})
		wantEvalErr(t, api.ErrForm, api.Expr{Kind: kind, Value: num(0)}, num(5))
		for n := range 4 {
			wantEvalErr(t, api.ErrForm, api.Expr{Kind: kind, Op: api.OpAdd, Args: slices.Repeat([]api.Expr{one}, n)})
			// Told ahead of what its Args have.
			wantEvalErr(t, api.ErrForm, api.Expr{Kind: kind, Op: api.OpAdd, Args: slices.Repeat([]api.Expr{column(9)}, n)})
		}
	}
}

func TestCountsOfArgs(t *testing.T) { // P13.2
	for kind := api.ExprOp; kind <= api.ExprNull; kind++ {
		for _, n := range []int{0, 1, 2, 3, 4, 255, 256, 257, 258, 65536, 65537, 65538} {
			if kind == api.ExprOp && n == 2 || kind != api.ExprOp && n == 1 {
				continue
			}
			// Told ahead of what its Args have.
			for _, arg := range []api.Expr{valued(num(1)), column(9), valued(text("a")), op(api.OpDiv, valued(num(1)), valued(num(0)))} {
				wantEvalErr(t, api.ErrForm, api.Expr{Kind: kind, Op: api.OpAdd, Args: slices.Repeat([]api.Expr{arg}, n)})
			}
		}
	}
}

func TestWhatIsNotLookedAt(t *testing.T) { // P13.2
	for _, args := range [][]api.Expr{nil, {}, {column(9)}, {{}, {Kind: 9}, {}}, {valued(text(full + "z"))}} {
		for _, e := range []api.Expr{
			{Kind: api.ExprValue, Value: num(5), Args: args},
			{Kind: api.ExprValue, Value: num(5), Args: args, Op: 99, Table: "T", Name: full + full},
			{Kind: api.ExprColumn, Value: num(1), Args: args},
			{Kind: api.ExprColumn, Value: num(1), Args: args, Op: -1, Table: "zz", Name: "\x00"},
		} {
			wantEval(t, num(5), e, num(7), num(5))
		}
	}
	five := valued(num(5))
	for _, v := range []api.Value{num(9), text("a"), {Kind: 9, Num: 9, Text: full + "z"}} {
		wantEval(t, num(10), api.Expr{Kind: api.ExprOp, Op: api.OpAdd, Table: "T", Name: "N", Value: v, Args: []api.Expr{five, five}})
		wantEval(t, num(0), api.Expr{Kind: api.ExprNot, Op: 99, Table: "T", Name: "N", Value: v, Args: []api.Expr{five}})
		wantEval(t, num(-5), api.Expr{Kind: api.ExprNeg, Op: -1, Table: "T", Name: "N", Value: v, Args: []api.Expr{five}})
		wantEval(t, num(0), api.Expr{Kind: api.ExprNull, Op: 14, Table: "T", Name: "N", Value: v, Args: []api.Expr{five}})
	}
}

// withErrors are expressions that have each error.
func withErrors() map[api.Errno]api.Expr {
	return map[api.Errno]api.Expr{
		api.ErrNum:    neg(valued(num(api.MinInt))),
		api.ErrDiv:    op(api.OpDiv, valued(num(1)), valued(num(0))),
		api.ErrType:   not(valued(text("a"))),
		api.ErrColumn: column(9),
		api.ErrForm:   valued(text(full + "z")),
	}
}

func TestTheFirstErrorOfArgs(t *testing.T) { // P13.2
	for code, e := range withErrors() {
		wantEvalErr(t, code, e)
		for _, kind := range []int{api.ExprNot, api.ExprNeg, api.ExprNull} {
			wantEvalErr(t, code, of(kind, e))
			wantEvalErr(t, code, of(kind, of(kind, e)))
		}
		for o := -1; o <= 15; o++ {
			// Told ahead of Op's errors, and whatever the other one is: none decides alone.
			for _, v := range values()[:30] {
				wantEvalErr(t, code, op(o, e, valued(v)))
				wantEvalErr(t, code, op(o, valued(v), e))
			}
			wantEvalErr(t, code, op(o, e, valued(text("a"))))
			wantEvalErr(t, code, op(o, valued(text("a")), e))
			for _, other := range withErrors() {
				wantEvalErr(t, code, op(o, e, other))
				wantEvalErr(t, code, op(o, op(api.OpAdd, valued(num(1)), e), other))
				wantEvalErr(t, code, op(o, op(api.OpAdd, e, other), other))
			}
		}
		wantEvalErr(t, code, op(api.OpAnd, valued(num(0)), e))
		wantEvalErr(t, code, op(api.OpOr, valued(num(1)), e))
		wantEvalErr(t, code, op(api.OpEq, valued(null), e))
	}
}

func TestTrue(t *testing.T) { // P13.3
	e := column(0)
	wantTrue(t, false, api.OK, e, null)
	for _, n := range numbers() {
		wantTrue(t, n != 0, api.OK, e, num(n))
		wantTrue(t, n == 0, api.OK, not(e), num(n))
		wantTrue(t, n != 0, api.OK, valued(num(n)))
	}
	for _, s := range texts() {
		wantTrue(t, false, api.ErrType, e, text(s))
		wantTrue(t, false, api.ErrType, valued(text(s)))
	}
	for code, e := range withErrors() {
		wantTrue(t, false, code, e)
	}
	for _, v := range wrongs() {
		wantTrue(t, false, api.ErrForm, e, v)
	}
	wantTrue(t, false, api.ErrColumn, e)
	wantTrue(t, false, api.ErrForm, api.Expr{})
	wantTrue(t, true, api.OK, op(api.OpOr, column(0), column(1)), null, num(-1))
	wantTrue(t, false, api.OK, op(api.OpEq, column(0), column(1)), null, null)
	wantTrue(t, true, api.OK, op(api.OpLt, column(0), valued(text("b"))), text("a"))
}

func TestDeepExprs(t *testing.T) { // W1
	deep := 1<<16 - 1
	for _, inner := range []api.Value{num(5), null, num(0), text("a")} {
		left, right, unary := column(0), column(0), column(0)
		for i := range deep {
			one := valued(num(i%3 - 1))
			o := api.OpOr + i%13
			left, right = op(o, left, one), op(o, one, right)
			unary = of(api.ExprNot+i%3, unary)
		}
		hold(t, unary, []api.Value{inner})
		hold(t, left, []api.Value{inner})
		hold(t, right, []api.Value{inner})
	}
	e, sum := column(0), 7
	for i := range deep {
		e = op(api.OpAdd, e, valued(num(i)))
		sum += i
	}
	wantEval(t, num(sum), e, num(7))
	wantEvalErr(t, api.ErrColumn, e)
}

// maker makes random expressions and rows.
type maker struct{ *rand.Rand }

func pick[T any](m maker, l ...T) T { return l[m.Intn(len(l))] }

func (m maker) value() api.Value {
	switch m.Intn(20) {
	case 0, 1, 2:
		return null
	case 3, 4:
		return text(pick(m, texts()...))
	case 5:
		return pick(m, wrongs()...)
	case 6, 7, 8:
		return num(pick(m, numbers()...))
	case 9:
		return num(some(m.Rand))
	}
	return num(m.Intn(7) - 3)
}

func (m maker) row() []api.Value {
	l := make([]api.Value, m.Intn(6))
	for i := range l {
		l[i] = m.value()
	}
	return l
}

func (m maker) leaf() api.Expr {
	switch m.Intn(30) {
	case 0:
		return api.Expr{Kind: api.ExprColumn, Value: m.value()}
	case 1:
		return column(m.Intn(9) - 2)
	case 2:
		return api.Expr{Kind: m.Intn(10) - 1, Value: m.value()}
	}
	if m.Intn(2) == 0 {
		return column(m.Intn(3))
	}
	return valued(m.value())
}

func (m maker) expr(deep int) api.Expr {
	if deep == 0 || m.Intn(8) == 0 {
		return m.leaf()
	}
	if m.Intn(150) == 0 {
		return api.Expr{Kind: m.Intn(9), Op: m.Intn(15), Value: m.value(), Args: m.exprs(deep-1, m.Intn(5))}
	}
	if m.Intn(3) == 0 {
		return of(api.ExprNot+m.Intn(3), m.exprs(deep-1, 1)...)
	}
	o := api.OpOr + m.Intn(13)
	if m.Intn(100) == 0 {
		o = m.Intn(20) - 3
	}
	return op(o, m.exprs(deep-1, 2)...)
}

func (m maker) exprs(deep, n int) []api.Expr {
	var l []api.Expr
	for range n {
		l = append(l, m.expr(deep))
	}
	return l
}

func TestRandomExprs(t *testing.T) { // P13.2, P13.3
	m := maker{rand.New(rand.NewSource(3))}
	seen := map[api.Errno]int{}
	for range 100000 {
		_, code := hold(t, m.expr(m.Intn(6)), m.row())
		seen[code]++
	}
	for _, code := range []api.Errno{api.OK, api.ErrForm, api.ErrNum, api.ErrDiv, api.ErrType, api.ErrColumn} {
		if seen[code] < 200 {
			t.Errorf("%d: but %d times", code, seen[code])
		}
	}
}

func TestEverySmallExpr(t *testing.T) { // P13.2
	leaves := []api.Expr{valued(null), valued(num(0)), valued(num(-1)), valued(num(api.MinInt)), valued(text("")), valued(text(full + "z")), column(0), column(1), column(2)}
	row := []api.Value{num(2), text("a")}
	first := slices.Clone(leaves)
	for _, a := range leaves {
		first = append(first, not(a), neg(a), isnt(a))
		for _, b := range leaves {
			for o := range 15 {
				first = append(first, op(o, a, b))
			}
		}
	}
	for _, a := range first {
		hold(t, a, row)
		hold(t, not(a), row)
		hold(t, neg(a), row)
		hold(t, isnt(a), row)
		for _, b := range leaves {
			for o := range 15 {
				hold(t, op(o, a, b), row)
				hold(t, op(o, b, a), row)
			}
		}
	}
}

// table is a scope, of which rows are made.
func table() []api.Table {
	return []api.Table{{Name: "t", Columns: []api.Column{{Name: "n", Kind: api.KindNum}, {Name: "m", Kind: api.KindNum}, {Name: "s", Kind: api.KindText}}}}
}

func TestSources(t *testing.T) { // P13.2, P13.3
	row := []api.Value{num(5), null, text("it's")}
	for source, want := range map[string]api.Value{
		"n":                            num(5),
		"m":                            null,
		"s":                            text("it's"),
		"n + 2 * 3":                    num(11),
		"- n % 3":                      num(-2),
		"n / 2 = 2 AND s > 'a'":        num(1),
		"n = 5 OR m = 1":               num(1),
		"n <> 5 OR m = 1":              null,
		"n <> 5 AND m = 1":             num(0),
		"m IS NULL AND s IS NOT NULL":  num(1),
		"NOT m":                        null,
		"NOT (n < 5)":                  num(1),
		"s = 'it''s' AND NOT s < 'it'": num(1),
		"m + 1 / 1 IS NULL":            num(1),
		"s <> NULL":                    null,
	} {
		e, fault := parse.One(source)
		bound, _, code := check.Bind(table(), e)
		if fault.Code != api.OK || code != api.OK {
			t.Fatalf("%q: %+v, %d", source, fault, code)
		}
		wantEval(t, want, bound, row...)
	}
}

func TestWhatIsBoundHasNoOtherErrors(t *testing.T) { // P13.2
	// Over rows of the columns' kinds only numbers can still be wrong.
	m := maker{rand.New(rand.NewSource(4))}
	bound := 0
	for range 30000 {
		e := named(m.expr(m.Intn(4)))
		b, kind, code := check.Bind(table(), e)
		if code != api.OK {
			continue
		}
		bound++
		row := []api.Value{pick(m, null, num(m.Intn(9)-4)), pick(m, null, num(some(m.Rand))), pick(m, null, text(pick(m, texts()...)))}
		v, code := hold(t, b, row)
		if code != api.OK && code != api.ErrNum && code != api.ErrDiv {
			t.Fatalf("Eval(%+v, %+v): %d", b, row, code)
		}
		if code == api.OK && v != null && v.Kind != kind {
			t.Fatalf("Eval(%+v, %+v): %+v, not of the kind %d", b, row, v, kind)
		}
	}
	if bound < 5000 {
		t.Errorf("but %d were bound", bound)
	}
}

// named puts names in the place of the numbers of columns.
func named(e api.Expr) api.Expr {
	if e.Kind == api.ExprColumn {
		return api.Expr{Kind: api.ExprColumn, Name: string("nms"[uint(e.Value.Num)%3])}
	}
	e.Args = slices.Clone(e.Args)
	for i, arg := range e.Args {
		e.Args[i] = named(arg)
	}
	return e
}

func FuzzEval(f *testing.F) { // P13.2, P13.3
	for _, s := range []string{"n + m * 2", "s <= 'a' OR NOT n", "- 9223372036854775807 - 1 / 0", "(n = 5) IS NULL % m"} {
		f.Add(s, 1, api.MinInt, "a")
	}
	f.Fuzz(func(t *testing.T, source string, n, m int, s string) {
		e, fault := parse.One(source)
		if fault.Code != api.OK {
			return
		}
		if bound, _, code := check.Bind(table(), e); code == api.OK {
			e = bound
		}
		for _, row := range [][]api.Value{{num(n), num(m), text(s)}, {null, num(m), null}, {num(n), null, text(strings.ToLower(s))}, {num(n)}} {
			hold(t, e, row)
		}
	})
}
