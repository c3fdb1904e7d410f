package parse

import "vestry/api"

// expr reads an expression.
func (r *reader) expr() api.Expr {
	return r.row(r.and, choice{"OR", api.OpOr})
}

// and reads what stands on either side of OR.
func (r *reader) and() api.Expr {
	return r.row(r.not, choice{"AND", api.OpAnd})
}

// not reads what stands on either side of AND.
func (r *reader) not() api.Expr {
	if r.skip("NOT") {
		return of(api.ExprNot, r.deeper(r.not))
	}
	return r.test()
}

// test reads a sum, and what it is held against.
func (r *reader) test() api.Expr {
	e := r.sum()
	if r.skip("IS") {
		return r.null(e)
	}
	op := r.choose(
		choice{"=", api.OpEq}, choice{"<>", api.OpNe}, choice{"<", api.OpLt},
		choice{"<=", api.OpLe}, choice{">", api.OpGt}, choice{">=", api.OpGe},
	)
	if op == none {
		return e
	}
	return api.Expr{Kind: api.ExprOp, Op: op, Args: []api.Expr{e, r.sum()}}
}

// null reads what stands behind the IS of e.
func (r *reader) null(e api.Expr) api.Expr {
	turned := r.skip("NOT")
	r.must("NULL")
	e = of(api.ExprNull, e)
	if turned {
		e = of(api.ExprNot, e)
	}
	return e
}

// sum reads terms.
func (r *reader) sum() api.Expr {
	return r.row(r.term, choice{"+", api.OpAdd}, choice{"-", api.OpSub})
}

// term reads factors.
func (r *reader) term() api.Expr {
	return r.row(r.factor, choice{"*", api.OpMul}, choice{"/", api.OpDiv}, choice{"%", api.OpMod})
}

// row reads what the level below reads, with operators between, which go
// together from the left.
func (r *reader) row(below func() api.Expr, operators ...choice) api.Expr {
	e := below()
	for op := r.choose(operators...); op != none; op = r.choose(operators...) {
		e = api.Expr{Kind: api.ExprOp, Op: op, Args: []api.Expr{e, below()}}
	}
	return e
}

// factor reads what no operator parts.
func (r *reader) factor() api.Expr {
	switch {
	case r.now().Kind == api.TokName:
		return r.col()
	case r.is("-") && r.behind().Kind != api.TokNum:
		r.next()
		return of(api.ExprNeg, r.deeper(r.factor))
	case r.skip("("):
		e := r.deeper(r.expr)
		r.must(")")
		return e
	}
	return api.Expr{Kind: api.ExprValue, Value: r.literal()}
}

// col reads a column's name, with that of its table ahead or without.
func (r *reader) col() api.Expr {
	e := api.Expr{Kind: api.ExprColumn, Name: r.name()}
	if r.skip(".") {
		e.Table, e.Name = e.Name, r.name()
	}
	return e
}

// literal reads a value as it is written.
func (r *reader) literal() api.Value {
	switch t := r.now(); {
	case r.skip("NULL"):
		return api.Value{Kind: api.KindNull}
	case t.Kind == api.TokText:
		r.next()
		return api.Value{Kind: api.KindText, Text: t.Text}
	case r.skip("-"):
		return api.Value{Kind: api.KindNum, Num: -r.number()}
	}
	return api.Value{Kind: api.KindNum, Num: r.number()}
}

// deeper reads what stands one deeper than what it stands in.
func (r *reader) deeper(read func() api.Expr) api.Expr {
	r.depth++
	if r.depth > api.MaxNest {
		r.fail(api.ErrNest)
	}
	e := read()
	r.depth--
	return e
}

// of is an expression of a kind that has one of Args.
func of(kind int, arg api.Expr) api.Expr {
	return api.Expr{Kind: kind, Args: []api.Expr{arg}}
}
