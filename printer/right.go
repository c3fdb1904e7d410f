package printer

import (
	"vestry/api"
	"vestry/lex"
	"vestry/value"
)

// noLimit is the Limit of a statement that has none.
const noLimit = -1

// rightExpr tells whether an expression is right. What its kind names is taken
// out of a copy, of which nothing may be left.
func rightExpr(e api.Expr) bool {
	rest := e
	rest.Kind = 0
	right := false
	switch e.Kind {
	case api.ExprValue:
		right, rest.Value = rightValue(e.Value), api.Value{}
	case api.ExprColumn:
		right = lex.Name(e.Name) && nameOrEmpty(e.Table)
		rest.Name, rest.Table = "", ""
	case api.ExprOp:
		right = isOperator(e.Op) && are(e.Args, 2, 2, rightExpr)
		rest.Op, rest.Args = 0, nil
	case api.ExprNot, api.ExprNeg, api.ExprNull:
		right, rest.Args = are(e.Args, 1, 1, rightExpr), nil
	}
	return right && emptyExpr(rest)
}

// emptyExpr tells whether all of an expression is zero.
func emptyExpr(e api.Expr) bool {
	return e.Kind == 0 && e.Op == 0 && e.Table == "" && e.Name == "" && e.Value == api.Value{} && len(e.Args) == 0
}

// rightValue tells whether a value may stand in an expression. No literal is
// read as MinInt: the number behind its - would be too great.
func rightValue(v api.Value) bool {
	return value.Right(v) == api.OK && v.Num != api.MinInt
}

// rightColumnExpr tells whether an expression is a column that is right.
func rightColumnExpr(e api.Expr) bool { return e.Kind == api.ExprColumn && rightExpr(e) }

// rightStatement tells whether a statement is right, in the way of rightExpr.
func rightStatement(s api.Statement) bool {
	rest := s
	rest.Kind, rest.Table = 0, ""
	right := false
	switch s.Kind {
	case api.StCreate:
		right = are(s.Columns, 1, api.MaxColumns, rightColumn) && lex.Name(s.Primary)
		rest.Columns, rest.Primary = nil, ""
	case api.StDrop:
		right = true
	case api.StInsert:
		right, rest.Rows = are(s.Rows, 1, api.MaxRows, rightRow), nil
	case api.StUpdate:
		right = are(s.Sets, 1, api.MaxColumns, rightSet) && are(s.Where, 0, 1, rightExpr)
		rest.Sets, rest.Where = nil, nil
	case api.StDelete:
		right, rest.Where = are(s.Where, 0, 1, rightExpr), nil
	case api.StSelect:
		right = rightSelect(s)
		rest.Items, rest.Join, rest.On, rest.Where = nil, "", nil, nil
		rest.Group, rest.Order, rest.Desc, rest.Limit = nil, nil, false, noLimit
	}
	return right && lex.Name(s.Table) && emptyStatement(rest)
}

// emptyStatement tells whether all of a statement is zero, and it has no Limit.
func emptyStatement(s api.Statement) bool {
	return s.Kind == 0 && s.Table == "" && len(s.Columns) == 0 && s.Primary == "" && len(s.Rows) == 0 &&
		len(s.Sets) == 0 && len(s.Items) == 0 && s.Join == "" && len(s.On) == 0 && len(s.Where) == 0 &&
		len(s.Group) == 0 && len(s.Order) == 0 && !s.Desc && s.Limit == noLimit
}

// rightSelect tells whether what a StSelect names is right.
func rightSelect(s api.Statement) bool {
	joins := 0
	if s.Join != "" {
		joins = 1
	}
	return are(s.Items, 1, api.MaxItems, rightItem) &&
		nameOrEmpty(s.Join) && are(s.On, joins, joins, rightExpr) &&
		are(s.Where, 0, 1, rightExpr) &&
		are(s.Group, 0, 1, rightColumnExpr) && are(s.Order, 0, 1, rightColumnExpr) &&
		(!s.Desc || len(s.Order) == 1) && s.Limit >= noLimit
}

// rightItem tells whether an item is right.
func rightItem(i api.Item) bool {
	switch i.Kind {
	case api.ItemAll, api.ItemRows:
		return len(i.Args) == 0
	case api.ItemExpr, api.ItemCount, api.ItemSum, api.ItemMin, api.ItemMax:
		return are(i.Args, 1, 1, rightExpr)
	}
	return false
}

// rightColumn tells whether a column is right.
func rightColumn(c api.Column) bool {
	return lex.Name(c.Name) && (c.Kind == api.KindNum || c.Kind == api.KindText)
}

// rightRow tells whether a row is right.
func rightRow(l []api.Value) bool { return are(l, 1, api.MaxColumns, rightValue) }

// rightSet tells whether what a column is given is right.
func rightSet(s api.Set) bool { return lex.Name(s.Name) && rightExpr(s.Expr) }

// nameOrEmpty tells whether a text is a name, or nothing.
func nameOrEmpty(s string) bool { return s == "" || lex.Name(s) }

// are tells whether there are from least to most of a list, and all are right.
func are[T any](l []T, least, most int, right func(one T) bool) bool {
	if len(l) < least || len(l) > most {
		return false
	}
	for _, one := range l {
		if !right(one) {
			return false
		}
	}
	return true
}
