package check

import (
	"slices"
	"strings"

	"vestry/api"
	"vestry/printer"
)

// Bind binds an expression's columns.
func Bind(l []api.Table, e api.Expr) (api.Expr, int, api.Errno) {
	// What is right may be too deep or too long to be written: that is no matter here.
	if _, code := printer.Expr(e); code == api.ErrForm {
		return api.Expr{}, 0, api.ErrForm
	}
	var bind func(e api.Expr) (api.Expr, int, api.Errno)
	bind = func(e api.Expr) (api.Expr, int, api.Errno) {
		var args []api.Expr
		var kinds []int
		code := each(e.Args, func(arg api.Expr) api.Errno {
			bound, kind, code := bind(arg)
			args, kinds = append(args, bound), append(kinds, kind)
			return code
		})
		if code != api.OK {
			return api.Expr{}, 0, code
		}
		switch e.Kind {
		case api.ExprValue:
			return bindValue(e.Value)
		case api.ExprColumn:
			return bindColumn(l, e.Table, e.Name)
		}
		if !mayHave(e, kinds) {
			return api.Expr{}, 0, api.ErrType
		}
		return api.Expr{Kind: e.Kind, Op: e.Op, Args: args}, api.KindNum, api.OK
	}
	return bind(e)
}

// bindValue is a value as an expression in memory of its own, and its kind.
func bindValue(v api.Value) (api.Expr, int, api.Errno) {
	v.Text = strings.Clone(v.Text)
	return api.Expr{Kind: api.ExprValue, Value: v}, v.Kind, api.OK
}

// bindColumn is the column of a name in a scope, and its kind.
func bindColumn(l []api.Table, table, name string) (api.Expr, int, api.Errno) {
	number, kind, holders := 0, 0, 0
	ahead := 0 // the columns of the tables ahead
	for _, t := range l {
		named := table != "" && t.Name == table
		if at := place(t, name); at >= 0 && (named || table == "") {
			number, kind = ahead+at, t.Columns[at].Kind
			holders++
		}
		// Only the first table of a name is meant by it.
		if named {
			break
		}
		ahead += len(t.Columns)
	}
	switch {
	case holders == 0:
		return api.Expr{}, 0, api.ErrColumn
	case holders > 1:
		return api.Expr{}, 0, api.ErrDouble
	}
	return api.Expr{Kind: api.ExprColumn, Value: api.Value{Kind: api.KindNum, Num: number}}, kind, api.OK
}

// place is that of a table's first column of a name, or below 0, if there is none.
func place(t api.Table, name string) int {
	return slices.IndexFunc(t.Columns, func(c api.Column) bool { return c.Name == name })
}

// mayHave tells whether an expression with Args may have such ones as are of these kinds.
func mayHave(e api.Expr, kinds []int) bool {
	if e.Kind == api.ExprNull {
		return true
	}
	if e.Kind == api.ExprOp && api.OpEq <= e.Op && e.Op <= api.OpGe {
		return kinds[0] == kinds[1] || slices.Contains(kinds, api.KindNull)
	}
	return !slices.ContainsFunc(kinds, func(kind int) bool { return kind != api.KindNum && kind != api.KindNull })
}

// each goes over a list, and stops with the first error.
func each[T any](l []T, visit func(one T) api.Errno) api.Errno {
	for _, one := range l {
		if code := visit(one); code != api.OK {
			return code
		}
	}
	return api.OK
}
