package printer

import "vestry/api"

// The levels of expressions: what is of a higher one binds more.
const (
	levelOr = iota
	levelAnd
	levelNot
	levelTest
	levelSum
	levelTerm
	levelFactor
	levelBrackets // of none: where this is asked for, all stand in brackets
)

// operator is how one is written, and the level of what it makes.
type operator struct {
	text  string
	level int
}

// operators are all of them, each at its number.
var operators = [...]operator{
	api.OpOr:  {"OR", levelOr},
	api.OpAnd: {"AND", levelAnd},
	api.OpEq:  {"=", levelTest},
	api.OpNe:  {"<>", levelTest},
	api.OpLt:  {"<", levelTest},
	api.OpLe:  {"<=", levelTest},
	api.OpGt:  {">", levelTest},
	api.OpGe:  {">=", levelTest},
	api.OpAdd: {"+", levelSum},
	api.OpSub: {"-", levelSum},
	api.OpMul: {"*", levelTerm},
	api.OpDiv: {"/", levelTerm},
	api.OpMod: {"%", levelTerm},
}

// isOperator tells whether a number is an operator's.
func isOperator(op int) bool { return api.OpOr <= op && op < len(operators) }

// level is that of an expression, as it is written.
func level(e api.Expr) int {
	switch {
	case e.Kind == api.ExprOp:
		return operators[e.Op].level
	case e.Kind == api.ExprNull || isNotNull(e):
		return levelTest
	case e.Kind == api.ExprNot:
		return levelNot
	}
	return levelFactor
}

// isNotNull tells whether an expression is written with IS NOT NULL.
func isNotNull(e api.Expr) bool {
	return e.Kind == api.ExprNot && e.Args[0].Kind == api.ExprNull
}

// expr writes an expression.
func (w *writer) expr(e api.Expr) {
	switch e.Kind {
	case api.ExprValue:
		w.literal(e.Value)
	case api.ExprColumn:
		w.column(e)
	case api.ExprOp:
		w.operation(operators[e.Op], e.Args[0], e.Args[1])
	case api.ExprNot:
		w.not(e)
	case api.ExprNeg:
		w.negation(e.Args[0])
	case api.ExprNull:
		w.null(e, "IS", "NULL")
	}
}

// literal writes a value.
func (w *writer) literal(v api.Value) {
	switch {
	case v.Kind == api.KindText:
		w.text(v.Text)
	case v.Kind == api.KindNull:
		w.fixed("NULL")
	case v.Num < 0:
		w.fixed("-")
		w.number(-v.Num)
	default:
		w.number(v.Num)
	}
}

// column writes a column's name, with that of its table ahead, if it has one.
func (w *writer) column(e api.Expr) {
	if e.Table != "" {
		w.name(e.Table)
		w.fixed(".")
	}
	w.name(e.Name)
}

// operation writes an operator with its sides.
func (w *writer) operation(o operator, left, right api.Expr) {
	higher := o.level + 1
	// Operators of one level go together from the left; but a test is no side of a test.
	if o.level == levelTest {
		w.from(higher, left)
	} else {
		w.from(o.level, left)
	}
	w.fixed(o.text)
	w.from(higher, right)
}

// not writes an ExprNot.
func (w *writer) not(e api.Expr) {
	if isNotNull(e) {
		w.null(e.Args[0], "IS", "NOT", "NULL")
		return
	}
	w.fixed("NOT")
	w.deeper(levelNot, e.Args[0])
}

// negation writes what is negated.
func (w *writer) negation(e api.Expr) {
	least := levelFactor
	// A - right ahead of a number would be the literal's.
	if e.Kind == api.ExprValue && e.Value.Kind == api.KindNum && e.Value.Num >= 0 {
		least = levelBrackets
	}
	w.fixed("-")
	w.deeper(least, e)
}

// null writes what an ExprNull is of, and the words behind it.
func (w *writer) null(e api.Expr, words ...string) {
	w.from(levelSum, e.Args[0])
	w.fixed(words...)
}

// from writes an expression where only those from a level on are read: one of a
// lower level stands in brackets.
func (w *writer) from(least int, e api.Expr) {
	if level(e) >= least {
		w.expr(e)
		return
	}
	w.fixed("(")
	w.deeper(levelOr, e)
	w.fixed(")")
}

// deeper writes an expression one deeper than what it stands in.
func (w *writer) deeper(least int, e api.Expr) {
	w.depth++
	w.deepest = max(w.deepest, w.depth)
	w.from(least, e)
	w.depth--
}
