package plan_test

import (
	"slices"
	"strings"
	"testing"

	"vestry/api"
	"vestry/check"
	"vestry/parse"
	"vestry/plan"
)

// table is a scope of three columns.
func table() []api.Table {
	return []api.Table{{Name: "t", Columns: []api.Column{{Name: "id", Kind: api.KindNum}, {Name: "n", Kind: api.KindNum}, {Name: "s", Kind: api.KindText}}}}
}

// bound is the expression of a source, over that scope.
func bound(t *testing.T, source string) api.Expr {
	t.Helper()
	e, fault := parse.One(source)
	b, _, code := check.Bind(table(), e)
	if fault.Code != api.OK || code != api.OK {
		t.Fatalf("%q: %+v, %d", source, fault, code)
	}
	return b
}

func wantSpan(t *testing.T, want api.Span, e api.Expr, column int) {
	t.Helper()
	if s := hold(t, e, column); !alike(s, want) {
		t.Errorf("Span(%s, %d): %v, not %v", brief(e), column, s, want)
	}
}

func wantAll(t *testing.T, e api.Expr) {
	t.Helper()
	wantSpan(t, api.Span{}, e, 0)
}

func TestExamplesOfSpan(t *testing.T) { // P15.2
	two, five, seven := keyOf(num(2)), keyOf(num(5)), keyOf(num(7))
	for source, want := range map[string]api.Span{
		"id = 5":                     span(five, five+"\x00", true),
		"id >= 2 AND 7 > id AND n=1": span(two, seven, true),
		"id < NULL":                  plan.None(),
		"id <> 3 OR id = 2":          plan.All(),
		"id = -5":                    span("\x01\x7f\xff\xff\xff\xff\xff\xff\xfb", "\x01\x7f\xff\xff\xff\xff\xff\xff\xfb\x00", true),
		"id > 5":                     span("\x01\x80\x00\x00\x00\x00\x00\x00\x05\x00", "", false),
		"5 > id":                     span("", "\x01\x80\x00\x00\x00\x00\x00\x00\x05", true),
		"7 >= id AND 2 <= id":        span(two, seven+"\x00", true),
		"7 < id AND id < 2":          span(seven+"\x00", two, true),
		"NULL = id":                  plan.None(),
		"id > 2 AND NULL >= id":      span(two+"\x00", "", true),
		"id = 2 AND id = 5":          span(five, two+"\x00", true),
		"id = 5 AND n < 7":           span(five, five+"\x00", true),
		"id = 5 AND (n<7 OR id = 2)": span(five, five+"\x00", true),
		"id >= 2 AND (NOT id = 2)":   span(two, "", false),
		"id = 5 OR id = 5":           plan.All(),
		"NOT id = 5":                 plan.All(),
		"id IS NULL":                 plan.All(),
		"id":                         plan.All(),
		"5":                          plan.All(),
		"NULL":                       plan.All(),
		"5 = 5":                      plan.All(),
		"id = id":                    plan.All(),
		"id = n":                     plan.All(),
		"id <> 5":                    plan.All(),
		"id <> NULL":                 plan.All(),
		"id + 5":                     plan.All(),
		"id + 0 = 5":                 plan.All(),
		"id = 2 + 3":                 plan.All(),
		"n = 5":                      plan.All(),
		"s = 'a' AND n = 5":          plan.All(),
		"- id = 5":                   plan.All(),
		"id = - (5)":                 plan.All(),
		"(id = 5) = 1":               plan.All(),
		"(id = 5) AND 1":             span(five, five+"\x00", true),
	} {
		wantSpan(t, want, bound(t, source), 0)
	}
}

func TestSpansOfTexts(t *testing.T) { // P15.2
	e := bound(t, "s > 'a' AND 'it''s' >= s AND id = 5")
	wantSpan(t, span("\x02a\x00\x00\x00", "\x02it's\x00\x00\x00", true), e, 2)
	wantSpan(t, span(keyOf(num(5)), keyOf(num(5))+"\x00", true), e, 0)
	wantSpan(t, plan.All(), e, 1)
	wantSpan(t, plan.All(), e, 3)
	wantSpan(t, span("\x02\x00\x00", "\x02\x00\x00\x00", true), bound(t, "s = ''"), 2)
	wantSpan(t, span("\x02\x00\xffa\x00\x00", "", false), op(api.OpGe, id, valued(text("\x00a"))), 0)
	wantSpan(t, span("", "\x02"+full+"\x00\x00", true), op(api.OpLt, id, valued(text(full))), 0)
}

// values are right ones.
func values() []api.Value {
	l := []api.Value{null}
	for _, n := range []int{api.MinInt, api.MinInt + 1, -1 << 32, -257, -256, -1, 0, 1, 2, 5, 7, 255, 256, 1 << 32, api.MaxInt - 1, api.MaxInt} {
		l = append(l, num(n))
	}
	for _, s := range []string{"", "\x00", "\x00\x00", "\x00\xff", "\x01", "a", "a\x00", "aa", "ab", "b", "it's", "é", "\xff", full[1:], full, strings.Repeat("\x00", api.MaxText)} {
		l = append(l, text(s))
	}
	return l
}

// wrongs are values that are not right.
func wrongs() []api.Value {
	l := []api.Value{
		{Num: 1}, {Num: -1}, {Text: "a"}, {Num: api.MinInt, Text: "\x00"},
		{Kind: api.KindNum, Text: "a"}, {Kind: api.KindNum, Num: 5, Text: "\x00"},
		{Kind: api.KindText, Num: 1}, {Kind: api.KindText, Num: -1, Text: "a"},
		text(full + "z"), text(strings.Repeat("\x00", api.MaxText+1)), text(strings.Repeat("a", 1<<16)),
	}
	for _, kind := range []int{api.MinInt, -256, -255, -2, -1, 3, 4, 255, 256, 257, 258, 1 << 32, 1<<32 + 1, api.MaxInt} {
		l = append(l, api.Value{Kind: kind}, api.Value{Kind: kind, Num: 5}, api.Value{Kind: kind, Text: "a"})
	}
	return l
}

// ops are all operators, and numbers that are none, some of which are one in their lowest byte.
func ops() []int {
	l := []int{api.MinInt, api.MinInt + api.OpEq, -256 + api.OpEq, -api.OpEq, 14, 15, 255, 256, 256 + api.OpAnd, 256 + api.OpEq, 256 + api.OpGe, 1 << 32, 1<<32 + api.OpAnd, 1<<32 + api.OpLt, api.MaxInt}
	for o := -1; o <= 13; o++ {
		l = append(l, o)
	}
	return l
}

func TestTests(t *testing.T) { // P15.2
	for _, v := range values() {
		if v == null {
			continue
		}
		k := keyOf(v)
		for o, want := range map[int]api.Span{
			api.OpEq: span(k, k+"\x00", true),
			api.OpLt: span("", k, true),
			api.OpLe: span("", k+"\x00", true),
			api.OpGt: span(k+"\x00", "", false),
			api.OpGe: span(k, "", false),
		} {
			turned := map[int]int{api.OpEq: api.OpEq, api.OpLt: api.OpGt, api.OpLe: api.OpGe, api.OpGt: api.OpLt, api.OpGe: api.OpLe}[o]
			for _, n := range columns() {
				wantSpan(t, want, op(o, column(n), valued(v)), n)
				wantSpan(t, want, op(turned, valued(v), column(n)), n)
			}
		}
	}
}

// columns are numbers of columns, also of such as no table has.
func columns() []int {
	return []int{0, 1, 2, 7, 8, 255, 256, 1 << 32, -1, -256, api.MinInt, api.MaxInt}
}

func TestTestsAgainstNull(t *testing.T) { // P15.2
	for _, o := range ops() {
		want := plan.All()
		if o >= api.OpEq && o <= api.OpGe && o != api.OpNe {
			want = plan.None()
		}
		for _, n := range columns() {
			wantSpan(t, want, op(o, column(n), valued(null)), n)
			wantSpan(t, want, op(o, valued(null), column(n)), n)
		}
	}
}

func TestOtherOperators(t *testing.T) { // P15.2
	for _, o := range ops() {
		if o >= api.OpEq && o <= api.OpGe && o != api.OpNe {
			continue
		}
		for _, v := range values() {
			wantAll(t, op(o, id, valued(v)))
			wantAll(t, op(o, valued(v), id))
		}
		if o != api.OpAnd {
			test := op(api.OpEq, id, valued(num(5)))
			wantAll(t, op(o, test, test))
		}
	}
}

func TestValuesThatAreNotRight(t *testing.T) { // P15.2
	for _, v := range wrongs() {
		for _, o := range ops() {
			wantAll(t, op(o, id, valued(v)))
			wantAll(t, op(o, valued(v), id))
		}
	}
}

func TestOtherColumns(t *testing.T) { // P15.2
	for _, n := range columns() {
		for _, m := range columns() {
			if n != m {
				wantSpan(t, plan.All(), op(api.OpEq, column(n), valued(num(5))), m)
				wantSpan(t, plan.All(), op(api.OpEq, valued(null), column(n)), m)
			}
		}
	}
	// The whole Value is that of the column, or it is none.
	for _, v := range append(wrongs(), null, text(""), text("0"), text("a"), api.Value{Kind: api.KindNum, Text: "id"}) {
		for _, n := range []int{0, 1, 5, v.Num} {
			e := api.Expr{Kind: api.ExprColumn, Value: v}
			wantSpan(t, plan.All(), op(api.OpEq, e, valued(num(5))), n)
			wantSpan(t, plan.All(), op(api.OpGe, valued(text("a")), e), n)
		}
	}
	// A name that is not bound is no column.
	wantAll(t, op(api.OpEq, api.Expr{Kind: api.ExprColumn, Table: "t", Name: "id"}, valued(num(5))))
}

func TestOtherArgs(t *testing.T) { // P15.2
	five := valued(num(5))
	others := []api.Expr{{}, id, of(api.ExprNeg, five), of(api.ExprNot, five), of(api.ExprNull, five), op(api.OpAdd, five, five), op(api.OpEq, id, five), {Kind: 7, Value: num(5)}, {Kind: -1, Value: num(5)}, {Kind: 257, Value: num(5)}, {Kind: api.MaxInt, Value: num(5)}}
	for _, o := range []int{api.OpEq, api.OpLt, api.OpLe, api.OpGt, api.OpGe} {
		for _, e := range others {
			wantAll(t, op(o, id, e))
			wantAll(t, op(o, e, id))
		}
		wantAll(t, op(o, five, five))
		// The number of the column, as a value, is no column.
		wantAll(t, op(o, valued(num(0)), five))
		wantAll(t, op(o, id, column(1)))
		wantAll(t, op(o, column(1), id))
	}
}

func TestOtherKinds(t *testing.T) { // P15.2
	five := valued(num(5))
	test := op(api.OpEq, id, five)
	for _, kind := range []int{api.MinInt, -253, -1, 0, 1, 2, 4, 5, 6, 7, 256, 259, 1<<32 + 3, api.MaxInt} {
		for _, args := range [][]api.Expr{nil, {id}, {test}, {id, five}, {test, test}, {test, test, test}} {
			for _, o := range []int{0, api.OpAnd, api.OpEq, api.OpLt} {
				wantAll(t, api.Expr{Kind: kind, Op: o, Value: num(0), Args: args})
				wantAll(t, api.Expr{Kind: kind, Op: o, Args: args})
			}
		}
	}
}

func TestCountsOfArgs(t *testing.T) { // P15.2
	five := valued(num(5))
	test := op(api.OpEq, id, five)
	for _, o := range ops() {
		for _, args := range [][]api.Expr{nil, {}, {id}, {five}, {test}, {id, five, five}, {five, id, id}, {test, test, test}, {id, five, id, five}, slices.Repeat([]api.Expr{test}, 100)} {
			wantAll(t, op(o, args...))
		}
	}
	// Such a one within a whole leaves the rest as it is.
	wantSpan(t, hold(t, test, 0), and(test, op(api.OpAnd, test)), 0)
	wantSpan(t, hold(t, test, 0), and(op(api.OpEq, id, five, five), test), 0)
}

func TestWhatIsNotLookedAt(t *testing.T) { // P15.2
	junk := func(e api.Expr) api.Expr {
		e.Table, e.Name = "t", "n"
		switch e.Kind {
		case api.ExprOp:
			e.Value = num(1)
		default:
			e.Op, e.Args = api.OpOr, []api.Expr{id, valued(num(1)), {}}
		}
		return e
	}
	v := num(5)
	e := junk(op(api.OpLe, junk(id), junk(valued(v))))
	wantSpan(t, span("", keyOf(v)+"\x00", true), e, 0)
	e = junk(and(e, junk(op(api.OpLe, junk(valued(num(2))), junk(id)))))
	wantSpan(t, span(keyOf(num(2)), keyOf(v)+"\x00", true), e, 0)
}

func TestAnd(t *testing.T) { // P15.2
	five, two, other := op(api.OpLt, id, valued(num(5))), op(api.OpLt, valued(num(2)), id), op(api.OpEq, column(1), valued(num(9)))
	both := span(keyOf(num(2))+"\x00", keyOf(num(5)), true)
	for _, e := range []api.Expr{and(five, two), and(two, five), and(and(five, two), other), and(other, and(five, two)), and(and(other, two), and(five, other)), and(and(five, five), and(two, two)), and(and(and(other, five), other), two)} {
		wantSpan(t, both, e, 0)
		wantAll(t, or(e, e))
		wantAll(t, of(api.ExprNot, e))
		wantAll(t, of(api.ExprNull, e))
		wantAll(t, op(api.OpEq, e, valued(num(1))))
		wantSpan(t, both, and(e, or(five, other)), 0)
		wantSpan(t, both, and(of(api.ExprNot, five), e), 0)
		wantSpan(t, plan.Meet(both, plan.None()), and(e, op(api.OpEq, id, valued(null))), 0)
	}
	wantAll(t, and(other, other))
	wantAll(t, and(valued(null), valued(num(0))))
	wantAll(t, and(api.Expr{}, api.Expr{}))
}

func TestDeepExprs(t *testing.T) { // W1
	const deep = 1 << 16
	two := op(api.OpGt, id, valued(num(2)))
	left, right, none := two, two, two
	for i := range deep - 2 {
		test := op(api.OpLe, id, valued(num(5+i)))
		left, right = and(left, test), and(test, right)
		none = of(api.ExprNot+i%3, none)
	}
	want := span(keyOf(num(2))+"\x00", keyOf(num(5))+"\x00", true)
	wantSpan(t, want, left, 0)
	wantSpan(t, want, right, 0)
	wantSpan(t, plan.All(), left, 1)
	wantAll(t, none)
	wide := two
	for range 12 {
		wide = and(wide, wide)
	}
	wantSpan(t, span(keyOf(num(2))+"\x00", "", false), wide, 0)
}
