package plan_test

import (
	"bytes"
	"fmt"
	"math/big"
	"strings"
	"testing"

	"vestry/api"
	"vestry/eval"
	"vestry/plan"
)

var null = api.Value{}

func num(n int) api.Value     { return api.Value{Kind: api.KindNum, Num: n} }
func text(s string) api.Value { return api.Value{Kind: api.KindText, Text: s} }

// full is a text that has no room left.
var full = strings.Repeat("z", api.MaxText)

func valued(v api.Value) api.Expr         { return api.Expr{Kind: api.ExprValue, Value: v} }
func column(n int) api.Expr               { return api.Expr{Kind: api.ExprColumn, Value: num(n)} }
func op(o int, l ...api.Expr) api.Expr    { return api.Expr{Kind: api.ExprOp, Op: o, Args: l} }
func of(kind int, l ...api.Expr) api.Expr { return api.Expr{Kind: kind, Args: l} }
func and(a, b api.Expr) api.Expr          { return op(api.OpAnd, a, b) }
func or(a, b api.Expr) api.Expr           { return op(api.OpOr, a, b) }

// id is the column of which most of the tests ask.
var id = column(0)

func span(from, to string, end bool) api.Span {
	return api.Span{From: []byte(from), To: []byte(to), End: end}
}

// What follows up to within are the words of the chapter, worked out apart from
// the package and from the layers below it.

func rightValue(v api.Value) bool {
	switch v.Kind {
	case 0:
		return v.Num == 0 && v.Text == ""
	case 1:
		return v.Text == ""
	}
	return v.Kind == 2 && v.Num == 0 && len(v.Text) <= 40
}

// keyOf is a value's key.
func keyOf(v api.Value) string {
	switch v.Kind {
	case 1:
		n := new(big.Int).Add(big.NewInt(int64(v.Num)), new(big.Int).Lsh(big.NewInt(1), 63))
		return "\x01" + string(n.FillBytes(make([]byte, 8)))
	case 2:
		return "\x02" + strings.ReplaceAll(v.Text, "\x00", "\x00\xff") + "\x00\x00"
	}
	return "\x00"
}

// meetOf is Meet.
func meetOf(a, b api.Span) api.Span {
	var ends []string
	for _, s := range []api.Span{a, b} {
		if s.End {
			ends = append(ends, string(s.To))
		}
	}
	s := api.Span{From: []byte(max(string(a.From), string(b.From))), End: len(ends) > 0}
	switch len(ends) {
	case 1:
		s.To = []byte(ends[0])
	case 2:
		s.To = []byte(min(ends[0], ends[1]))
	}
	return s
}

// signOf is a test's sign, turned round, if the column stands on its right.
func signOf(o int, turned bool) string {
	sign := map[int]string{3: "=", 5: "<", 6: "<=", 7: ">", 8: ">="}[o]
	if turned {
		sign = strings.NewReplacer("<", ">", ">", "<").Replace(sign)
	}
	return sign
}

// spanOf is Span.
func spanOf(e api.Expr, column int) api.Span {
	if e.Kind != 3 || len(e.Args) != 2 {
		return api.Span{}
	}
	if e.Op == 2 {
		return meetOf(spanOf(e.Args[0], column), spanOf(e.Args[1], column))
	}
	for i, c := range e.Args {
		v := e.Args[1-i]
		if c.Kind == 2 && c.Value == (api.Value{Kind: 1, Num: column}) && v.Kind == 1 && rightValue(v.Value) {
			return testOf(signOf(e.Op, i == 1), v.Value)
		}
	}
	return api.Span{}
}

// testOf is the span of a test with the column on its left, named by its sign.
func testOf(sign string, v api.Value) api.Span {
	if sign != "" && v.Kind == 0 {
		return api.Span{End: true}
	}
	k := keyOf(v)
	switch sign {
	case "=":
		return span(k, k+"\x00", true)
	case "<":
		return span("", k, true)
	case "<=":
		return span("", k+"\x00", true)
	case ">":
		return span(k+"\x00", "", false)
	case ">=":
		return span(k, "", false)
	}
	return api.Span{}
}

// within tells whether a key is within a span.
func within(key string, s api.Span) bool {
	return key >= string(s.From) && !(s.End && key >= string(s.To))
}

func alike(a, b api.Span) bool {
	return bytes.Equal(a.From, b.From) && bytes.Equal(a.To, b.To) && a.End == b.End
}

// brief is something as it is told: of what is deep, or wide, the beginning.
func brief(what any) string {
	s := fmt.Sprintf("%+v", what)
	return s[:min(len(s), 1000)]
}

// hold holds Span against the words, and tells what it answered.
func hold(t *testing.T, e api.Expr, column int) api.Span {
	t.Helper()
	s := plan.Span(e, column)
	if want := spanOf(e, column); !alike(s, want) {
		t.Fatalf("Span(%s, %d): %v, not %v", brief(e), column, s, want)
	}
	return s
}

// holdMeet holds Meet against the words.
func holdMeet(t *testing.T, a, b api.Span) {
	t.Helper()
	if s, want := plan.Meet(a, b), meetOf(a, b); !alike(s, want) {
		t.Fatalf("Meet(%v, %v): %v, not %v", a, b, s, want)
	}
}

// holdRow holds that of a row of which a condition is true each value's key is
// within the span of its column, and tells whether it is true.
func holdRow(t *testing.T, e api.Expr, row ...api.Value) bool { // P15.4
	t.Helper()
	yes, _ := eval.True(e, row)
	for i, v := range row {
		if s := hold(t, e, i); yes && !within(keyOf(v), s) {
			t.Fatalf("%s is true of %+v, but Span of the column %d is %v", brief(e), row, i, s)
		}
	}
	return yes
}
