package eval_test

import (
	"fmt"
	"math/big"
	"strings"
	"testing"

	"vestry/api"
	"vestry/eval"
)

var null = api.Value{}

func num(n int) api.Value     { return api.Value{Kind: api.KindNum, Num: n} }
func text(s string) api.Value { return api.Value{Kind: api.KindText, Text: s} }

// full is a text that has no room left.
var full = strings.Repeat("z", api.MaxText)

func valued(v api.Value) api.Expr         { return api.Expr{Kind: api.ExprValue, Value: v} }
func column(n int) api.Expr               { return api.Expr{Kind: api.ExprColumn, Value: num(n)} }
func op(o int, l ...api.Expr) api.Expr    { return api.Expr{Kind: api.ExprOp, Op: o, Args: l} }
func of(kind int, l ...api.Expr) api.Expr { return api.Expr{Kind: kind, Args: l} }
func not(e api.Expr) api.Expr             { return of(api.ExprNot, e) }
func neg(e api.Expr) api.Expr             { return of(api.ExprNeg, e) }
func isnt(e api.Expr) api.Expr            { return of(api.ExprNull, e) }

// What follows up to trueOf are the words of the chapter, worked out apart from
// the package and from the layers below it.

func rightValue(v api.Value) bool {
	switch v.Kind {
	case 0:
		return v.Num == 0 && v.Text == ""
	case 1:
		return v.Text == ""
	}
	return v.Kind == 2 && v.Num == 0 && len(v.Text) <= 40
}

// The ranks of truth: AND is the lesser one of two, OR the greater one.
const (
	no      = 0
	unknown = 1
	yes     = 2
)

func rank(v api.Value) int {
	switch v {
	case null:
		return unknown
	case num(0):
		return no
	}
	return yes
}

// truthOf are the values of the ranks.
var truthOf = [3]api.Value{no: {Kind: 1}, unknown: {}, yes: {Kind: 1, Num: 1}}

func rankOf(is bool) int {
	if is {
		return yes
	}
	return no
}

// testOf is what a test of two values of one kind comes to, named by its sign.
func testOf(sign string, a, b api.Value) bool {
	less, same := a.Num < b.Num, a == b
	if a.Kind == 2 {
		less = strings.Compare(a.Text, b.Text) < 0
	}
	holds := map[string]bool{"<": less, "=": same, ">": !less && !same}
	for _, c := range sign {
		if sign == "<>" && !same || sign != "<>" && holds[string(c)] {
			return true
		}
	}
	return false
}

// sumOf is what comes of two numbers, however great.
func sumOf(sign string, a, b *big.Int) *big.Int {
	n := new(big.Int)
	switch sign {
	case "+":
		return n.Add(a, b)
	case "-":
		return n.Sub(a, b)
	case "*":
		return n.Mul(a, b)
	case "/":
		return n.Quo(a, b)
	}
	return n.Rem(a, b)
}

var signs = []string{"", "OR", "AND", "=", "<>", "<", "<=", ">", ">=", "+", "-", "*", "/", "%"}

// opOf is Op.
func opOf(o int, a, b api.Value) (api.Value, api.Errno) {
	if o < 1 || o > 13 || !rightValue(a) || !rightValue(b) {
		return null, 4
	}
	sign := signs[o]
	texts := 0
	for _, v := range []api.Value{a, b} {
		if v.Kind == 2 {
			texts++
		}
	}
	if sign == "AND" || sign == "OR" {
		if texts > 0 {
			return null, 9
		}
		if sign == "AND" {
			return truthOf[min(rank(a), rank(b))], 0
		}
		return truthOf[max(rank(a), rank(b))], 0
	}
	if a == null || b == null {
		return null, 0
	}
	if strings.ContainsAny(sign, "<=>") {
		if texts == 1 {
			return null, 9
		}
		return truthOf[rankOf(testOf(sign, a, b))], 0
	}
	if texts > 0 {
		return null, 9
	}
	if b.Num == 0 && (sign == "/" || sign == "%") {
		return null, 8
	}
	n := sumOf(sign, big.NewInt(int64(a.Num)), big.NewInt(int64(b.Num)))
	if !n.IsInt64() {
		return null, 7
	}
	return num(int(n.Int64())), 0
}

// evalOf is Eval.
func evalOf(e api.Expr, row []api.Value) (api.Value, api.Errno) {
	if e.Kind == 1 || e.Kind == 2 {
		v := e.Value
		if e.Kind == 2 {
			if v.Kind != 1 || v.Num < 0 || v.Num >= len(row) {
				return null, 12
			}
			v = row[v.Num]
		}
		if !rightValue(v) {
			return null, 4
		}
		return v, 0
	}
	if e.Kind < 1 || e.Kind > 6 || e.Kind == 3 && len(e.Args) != 2 || e.Kind > 3 && len(e.Args) != 1 {
		return null, 4
	}
	var l []api.Value
	var codes []api.Errno
	for _, arg := range e.Args {
		v, code := evalOf(arg, row)
		l = append(l, v)
		codes = append(codes, code)
	}
	for _, code := range codes {
		if code != 0 {
			return null, code
		}
	}
	v := l[0]
	switch {
	case e.Kind == 3:
		return opOf(e.Op, v, l[1])
	case e.Kind == 6:
		return truthOf[rankOf(v == null)], 0
	case v.Kind == 2:
		return null, 9
	case v == null:
		return null, 0
	case e.Kind == 4:
		return truthOf[yes-rank(v)], 0
	case v.Num == -1<<63:
		return null, 7
	}
	return num(-v.Num), 0
}

// trueOf is True.
func trueOf(e api.Expr, row []api.Value) (bool, api.Errno) {
	v, code := evalOf(e, row)
	if code == 0 && v.Kind == 2 {
		code = 9
	}
	return code == 0 && v.Kind == 1 && v.Num != 0, code
}

// brief is an expression as it is told: of one that is deep, or wide, the beginning.
func brief(e api.Expr) string {
	s := fmt.Sprintf("%+v", e)
	return s[:min(len(s), 1000)]
}

// holdOp holds Op against the words, and tells what it answered.
func holdOp(t *testing.T, o int, a, b api.Value) (api.Value, api.Errno) {
	t.Helper()
	v, code := eval.Op(o, a, b)
	if want, wantCode := opOf(o, a, b); v != want || code != wantCode {
		t.Errorf("Op(%d, %+v, %+v): %+v, %d, not %+v, %d", o, a, b, v, code, want, wantCode)
	}
	return v, code
}

// hold holds Eval and True against the words, and tells what Eval answered.
func hold(t *testing.T, e api.Expr, row []api.Value) (api.Value, api.Errno) {
	t.Helper()
	v, code := eval.Eval(e, row)
	if want, wantCode := evalOf(e, row); v != want || code != wantCode {
		t.Fatalf("Eval(%s, %+v): %+v, %d, not %+v, %d", brief(e), row, v, code, want, wantCode)
	}
	is, trueCode := eval.True(e, row)
	if want, wantCode := trueOf(e, row); is != want || trueCode != wantCode {
		t.Fatalf("True(%s, %+v): %v, %d, not %v, %d", brief(e), row, is, trueCode, want, wantCode)
	}
	return v, code
}
