package plan_test

import (
	"math/rand"
	"slices"
	"strings"
	"testing"

	"vestry/api"
	"vestry/check"
	"vestry/parse"
	"vestry/plan"
)

func TestSpanOfATestHasJustItsKeys(t *testing.T) { // P15.4
	// Of one kind of values the span of a test has no key but those of which it is true.
	for _, v := range values() {
		for o := api.OpEq; o <= api.OpGe; o++ {
			if o == api.OpNe {
				continue
			}
			for _, e := range []api.Expr{op(o, id, valued(v)), op(o, valued(v), id)} {
				s := plan.Span(e, 0)
				for _, w := range values() {
					if yes := holdRow(t, e, w); w.Kind == v.Kind && yes != within(keyOf(w), s) {
						t.Errorf("%+v is %v of %+v, but its span is %v", e, yes, w, s)
					}
				}
			}
		}
	}
}

func TestSources(t *testing.T) { // P15.4
	for source, want := range map[string]int{
		"id = 5":                          1,
		"id >= 2 AND 7 > id AND n = 1":    5,
		"id < NULL":                       0,
		"id <> 3 OR id = 2":               19,
		"id > 0 AND NOT id > 3":           3,
		"-3 <= id AND id <= 3 AND s = ''": 7,
		"id > 7 AND s IS NOT NULL":        2,
		"s > '' OR n < 1":                 0,
	} {
		e := bound(t, source)
		count := 0
		for n := -10; n < 10; n++ {
			if holdRow(t, e, num(n), num(1), text("")) {
				count++
			}
		}
		if count != want {
			t.Errorf("%q is true of %d rows, not %d", source, count, want)
		}
	}
}

func TestEverySmallExpr(t *testing.T) { // P15.2, P15.4
	leaves := []api.Expr{valued(null), valued(num(0)), valued(num(2)), valued(text("")), valued(text(full + "z")), id, column(1), {Kind: api.ExprColumn, Value: api.Value{Kind: api.KindNum, Text: "a"}}}
	rows := [][]api.Value{{num(2), num(0)}, {null, num(3)}, {num(0), null}, {text(""), text("a")}, {num(-1), num(2)}}
	var first []api.Expr
	for _, a := range leaves {
		first = append(first, a, of(api.ExprNot, a), of(api.ExprNeg, a), of(api.ExprNull, a))
		for _, b := range leaves {
			for o := range 10 {
				first = append(first, op(o, a, b))
			}
		}
	}
	yes := 0
	for i, a := range first {
		for _, b := range leaves {
			for o := range 10 {
				hold(t, op(o, a, b), 0)
				hold(t, op(o, b, a), 1)
			}
		}
		for k, b := range first {
			if holdRow(t, and(a, b), rows[(i+k)%len(rows)]...) {
				yes++
			}
		}
	}
	if yes < 1000 {
		t.Errorf("but %d are true", yes)
	}
}

// maker makes things at random, of few values, so that these often meet.
type maker struct{ *rand.Rand }

func pick[T any](m maker, l ...T) T { return l[m.Intn(len(l))] }

func (m maker) value() api.Value {
	switch m.Intn(16) {
	case 0:
		return null
	case 1:
		return pick(m, values()...)
	case 2:
		return text(pick(m, "", "a", "a\x00", "aa", "b"))
	case 3:
		if m.Intn(4) == 0 {
			return pick(m, wrongs()...)
		}
	}
	return num(m.Intn(9) - 4)
}

func (m maker) leaf() api.Expr {
	if m.Intn(2) == 0 {
		return valued(m.value())
	}
	return column(m.Intn(3))
}

// expr has at most so many parts within one another; many are tests, and rows of AND.
func (m maker) expr(deep int) api.Expr {
	if deep == 0 {
		return op(api.OpEq+m.Intn(6), m.leaf(), m.leaf())
	}
	switch m.Intn(20) {
	case 0:
		return m.leaf()
	case 1:
		return of(api.ExprNot+m.Intn(3), m.expr(deep-1))
	case 2:
		return op(pick(m, ops()...), m.expr(deep-1), m.leaf())
	case 3:
		return or(m.expr(deep-1), m.expr(deep-1))
	case 4:
		return m.expr(0)
	case 5:
		if m.Intn(10) == 0 {
			return api.Expr{Kind: m.Intn(9), Op: api.OpAnd, Value: m.value(), Args: []api.Expr{m.expr(deep - 1), m.leaf(), m.leaf()}[:m.Intn(4)]}
		}
	}
	return and(m.expr(deep-1), m.expr(deep-1))
}

func (m maker) row() []api.Value {
	return []api.Value{m.value(), m.value(), m.value()}
}

func TestRandomExprs(t *testing.T) { // P15.2, P15.4
	m := maker{rand.New(rand.NewSource(16))}
	yes, open, closed := 0, 0, 0
	for range 200000 {
		e := m.expr(m.Intn(4))
		if holdRow(t, e, m.row()...) {
			yes++
			s := plan.Span(e, 0)
			if len(s.From) > 0 && !s.End {
				open++
			}
			if s.End {
				closed++
			}
		}
	}
	if yes < 5000 || open < 500 || closed < 500 {
		t.Errorf("but %d are true, of which %d, %d leave not all keys", yes, open, closed)
	}
}

func FuzzSpan(f *testing.F) { // P15.2, P15.4
	for _, s := range []string{"id = 5 AND n < 2", "s <= 'a' AND 'a' <= s AND id > NULL", "2 < id AND (n = 1 OR id = 5)", "NOT id >= - 9223372036854775807", "id <> 5 AND s = ''"} {
		f.Add(s, 5, api.MinInt, "a")
	}
	f.Fuzz(func(t *testing.T, source string, n, m int, s string) {
		e, fault := parse.One(source)
		if fault.Code != api.OK {
			return
		}
		if b, _, code := check.Bind(table(), e); code == api.OK {
			e = b
		}
		for _, row := range [][]api.Value{{num(n), num(m), text(s)}, {null, num(m), null}, {num(m), null, text(strings.ToLower(s))}, {num(n)}} {
			if !slices.ContainsFunc(row, func(v api.Value) bool { return !rightValue(v) }) {
				holdRow(t, e, row...)
			}
		}
		hold(t, and(op(api.OpGe, column(n), valued(text(s))), op(api.OpGt, valued(num(m)), column(n))), n)
	})
}
