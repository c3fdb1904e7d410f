package eval

import (
	"vestry/api"
	"vestry/value"
)

// Op reckons one operator.
func Op(op int, a, b api.Value) (api.Value, api.Errno) {
	if op < api.OpOr || op > api.OpMod || value.Right(a) != api.OK || value.Right(b) != api.OK {
		return api.Value{}, api.ErrForm
	}
	joins := op == api.OpOr || op == api.OpAnd
	tests := op >= api.OpEq && op <= api.OpGe
	null := a.Kind == api.KindNull || b.Kind == api.KindNull
	text := a.Kind == api.KindText || b.Kind == api.KindText
	switch {
	case null && !joins:
		return api.Value{}, api.OK
	case tests && a.Kind != b.Kind, text && !tests:
		return api.Value{}, api.ErrType
	case tests:
		return truth(holds(op, value.Compare(a, b))), api.OK
	case joins:
		// One that is true makes the whole of OpOr true, one that is not that of OpAnd not.
		return join(a, b, op == api.OpOr), api.OK
	}
	n, code := sum(op, a.Num, b.Num)
	if code != api.OK {
		return api.Value{}, code
	}
	return number(n), api.OK
}

// join is what two come to, of which one alone decides, if it is known to be as decides.
func join(a, b api.Value, decides bool) api.Value {
	switch {
	case is(a, decides) || is(b, decides):
		return truth(decides)
	case a.Kind == api.KindNull || b.Kind == api.KindNull:
		return api.Value{}
	}
	return truth(!decides)
}

// holds tells whether a test holds of two values, order being what
// value.Compare says of them. Each test falls through to the one whose
// contrary it is: what they have in common is how that one is told.
func holds(op, order int) bool {
	yes := true
	switch op {
	case api.OpNe:
		yes = false
		fallthrough
	case api.OpEq:
		return (order == 0) == yes
	case api.OpGe:
		yes = false
		fallthrough
	case api.OpLt:
		return (order < 0) == yes
	case api.OpLe:
		yes = false
		fallthrough
	default: // api.OpGt
		return (order > 0) == yes
	}
}

// sum is what comes of two numbers, or why none does.
func sum(op, a, b int) (int, api.Errno) {
	if b == 0 && (op == api.OpDiv || op == api.OpMod) {
		return 0, api.ErrDiv
	}
	// Less the least number there is none, but Go's product and quotient are it again.
	least := a == api.MinInt && b == -1
	n, fits := 0, true
	switch op {
	case api.OpAdd:
		n = a + b
		fits = (n < a) == (b < 0)
	case api.OpSub:
		n = a - b
		fits = (n > a) == (b < 0)
	case api.OpMul:
		n = a * b
		fits = b == 0 || n/b == a && !least
	case api.OpDiv:
		n = a / b
		fits = !least
	case api.OpMod:
		n = a % b
	}
	if !fits {
		return 0, api.ErrNum
	}
	return n, api.OK
}
