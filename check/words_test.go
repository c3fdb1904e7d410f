package check_test

import (
	"reflect"
	"regexp"
	"slices"
	"testing"

	"vestry/api"
	"vestry/catalog"
	"vestry/check"
)

// What follows up to faultOf are the words of the chapters 10 and 12, worked out
// apart from the package and from the layers below it.

var nameForm = regexp.MustCompile(`\A[a-z_][a-z0-9_]{0,15}\z`)

func isName(s string) bool { return nameForm.MatchString(s) }

// zeroBut tells whether all fields of a struct but these are zero; empty lists are as none.
func zeroBut(x any, names ...string) bool {
	v := reflect.ValueOf(x)
	for i := range v.NumField() {
		f := v.Field(i)
		empty := f.IsZero() || f.Kind() == reflect.Slice && f.Len() == 0
		if !empty && !slices.Contains(names, v.Type().Field(i).Name) {
			return false
		}
	}
	return true
}

// all tells whether a list has from least to most, all of which are right.
func all[T any](l []T, least, most int, right func(T) bool) bool {
	return len(l) >= least && len(l) <= most && !slices.ContainsFunc(l, func(one T) bool { return !right(one) })
}

func rightValue(v api.Value) bool {
	switch v.Kind {
	case api.KindNull:
		return v == api.Value{}
	case api.KindNum:
		return v.Text == "" && v.Num != api.MinInt
	}
	return v.Kind == api.KindText && v.Num == 0 && len(v.Text) <= 40
}

func rightExpr(e api.Expr) bool {
	switch e.Kind {
	case api.ExprValue:
		return zeroBut(e, "Kind", "Value") && rightValue(e.Value)
	case api.ExprColumn:
		return zeroBut(e, "Kind", "Table", "Name") && isName(e.Name) && (e.Table == "" || isName(e.Table))
	case api.ExprOp:
		return zeroBut(e, "Kind", "Op", "Args") && e.Op >= 1 && e.Op <= 13 && all(e.Args, 2, 2, rightExpr)
	case api.ExprNot, api.ExprNeg, api.ExprNull:
		return zeroBut(e, "Kind", "Args") && all(e.Args, 1, 1, rightExpr)
	}
	return false
}

func rightItem(i api.Item) bool {
	if i.Kind == api.ItemAll || i.Kind == api.ItemRows {
		return len(i.Args) == 0
	}
	return i.Kind >= 1 && i.Kind <= 7 && all(i.Args, 1, 1, rightExpr)
}

func rightStatement(s api.Statement) bool {
	named := []string{"Kind", "Table", "Limit"}
	right := isName(s.Table)
	isColumn := func(e api.Expr) bool { return e.Kind == api.ExprColumn && rightExpr(e) }
	switch s.Kind {
	case api.StCreate:
		named = append(named, "Columns", "Primary")
		right = right && isName(s.Primary) && all(s.Columns, 1, 8, func(c api.Column) bool { return isName(c.Name) && (c.Kind == 1 || c.Kind == 2) })
	case api.StDrop:
	case api.StInsert:
		named = append(named, "Rows")
		right = right && all(s.Rows, 1, 16, func(l []api.Value) bool { return all(l, 1, 8, rightValue) })
	case api.StUpdate:
		named = append(named, "Sets", "Where")
		right = right && all(s.Sets, 1, 8, func(x api.Set) bool { return isName(x.Name) && rightExpr(x.Expr) }) && all(s.Where, 0, 1, rightExpr)
	case api.StDelete:
		named = append(named, "Where")
		right = right && all(s.Where, 0, 1, rightExpr)
	case api.StSelect:
		named = append(named, "Items", "Join", "On", "Where", "Group", "Order", "Desc")
		right = right && all(s.Items, 1, 8, rightItem) && all(s.Where, 0, 1, rightExpr) && all(s.Group, 0, 1, isColumn) && all(s.Order, 0, 1, isColumn)
		right = right && (s.Join == "" && len(s.On) == 0 || isName(s.Join) && all(s.On, 1, 1, rightExpr))
		return right && zeroBut(s, named...) && (!s.Desc || len(s.Order) == 1) && s.Limit >= -1
	default:
		return false
	}
	return right && zeroBut(s, named...) && s.Limit == -1
}

// columnOf is the number of the column of a name, and its kind.
func columnOf(scope []api.Table, table, name string) (int, int, api.Errno) {
	var numbers, kinds, tables []int
	number := 0
	for i, t := range scope {
		first := slices.IndexFunc(scope, func(t api.Table) bool { return t.Name == table }) == i
		for _, c := range t.Columns {
			if c.Name == name && (table == "" || first) {
				numbers, kinds, tables = append(numbers, number), append(kinds, c.Kind), append(tables, i)
			}
			number++
		}
	}
	switch {
	case len(numbers) == 0:
		return 0, 0, api.ErrColumn
	case slices.Min(tables) < slices.Max(tables):
		return 0, 0, api.ErrDouble
	}
	return numbers[0], kinds[0], api.OK
}

// partsOf are the parts of an expression, each behind its Args, from the left.
func partsOf(e api.Expr) []api.Expr {
	var l []api.Expr
	for _, arg := range e.Args {
		l = append(l, partsOf(arg)...)
	}
	return append(l, e)
}

// boundOf is what Bind must answer: the parts are gone over in a row, with what
// stands ahead of them on a stack.
func boundOf(scope []api.Table, e api.Expr) (api.Expr, int, api.Errno) {
	if !rightExpr(e) {
		return api.Expr{}, 0, api.ErrForm
	}
	var stack []api.Expr
	var kinds []int
	for _, part := range partsOf(e) {
		from := len(stack) - len(part.Args)
		under := slices.Clone(kinds[from:])
		bound, kind := part, api.KindNum
		bound.Args = slices.Clone(stack[from:])
		texts, nulls := 0, 0
		for _, k := range under {
			texts += k / api.KindText
			nulls += 1 - min(k, 1)
		}
		switch {
		case part.Kind == api.ExprValue:
			kind = part.Value.Kind
		case part.Kind == api.ExprColumn:
			number, its, code := columnOf(scope, part.Table, part.Name)
			if code != api.OK {
				return api.Expr{}, 0, code
			}
			bound, kind = api.Expr{Kind: api.ExprColumn, Value: api.Value{Kind: api.KindNum, Num: number}}, its
		case part.Kind == api.ExprNull || part.Op >= api.OpEq && part.Op <= api.OpGe && (texts != 1 || nulls == 1):
		case texts > 0:
			return api.Expr{}, 0, api.ErrType
		}
		stack, kinds = append(stack[:from:from], bound), append(kinds[:from], kind)
	}
	return stack[0], kinds[0], api.OK
}

// faults are those that were found, in their order; OK is none.
type faults []api.Errno

func (l *faults) say(holds bool, e api.Errno) {
	if holds && e != api.OK {
		*l = append(*l, e)
	}
}

func (l *faults) where(scope []api.Table, parts []api.Expr) {
	for _, e := range parts {
		_, kind, code := boundOf(scope, e)
		l.say(true, code)
		l.say(kind == api.KindText, api.ErrType)
	}
}

func (l *faults) insert(t api.Table, rows [][]api.Value) {
	for _, row := range rows {
		l.say(len(row) != len(t.Columns), api.ErrCount)
		for i := range min(len(row), len(t.Columns)) {
			l.say(row[i].Kind != api.KindNull && row[i].Kind != t.Columns[i].Kind, api.ErrType)
		}
	}
}

func (l *faults) update(t api.Table, s api.Statement) {
	scope := []api.Table{t}
	for i, set := range s.Sets {
		_, its, code := columnOf(scope, t.Name, set.Name)
		l.say(true, code)
		l.say(slices.ContainsFunc(s.Sets[:i], func(x api.Set) bool { return x.Name == set.Name }), api.ErrDouble)
		_, kind, code := boundOf(scope, set.Expr)
		l.say(true, code)
		l.say(kind != its && kind != api.KindNull, api.ErrType)
	}
	l.where(scope, s.Where)
}

func (l *faults) selects(scope []api.Table, s api.Statement) {
	l.where(scope, s.On)
	l.where(scope, s.Where)
	grouped, count := len(s.Group) == 1, 0
	for _, i := range s.Items {
		grouped = grouped || i.Kind >= api.ItemRows
		count++
		for _, t := range scope {
			if i.Kind == api.ItemAll {
				count += len(t.Columns)
			}
		}
		if i.Kind == api.ItemAll {
			count--
		}
	}
	group := -1
	for _, e := range s.Group {
		bound, _, code := boundOf(scope, e)
		l.say(true, code)
		group = bound.Value.Num
	}
	isGroup := func(e api.Expr) bool { return e.Kind == api.ExprColumn && e.Value.Num == group }
	for _, i := range s.Items {
		l.say(grouped && i.Kind == api.ItemAll, api.ErrForm)
		for _, e := range i.Args {
			bound, kind, code := boundOf(scope, e)
			l.say(true, code)
			l.say(i.Kind == api.ItemSum && kind == api.KindText, api.ErrType)
			l.say(grouped && i.Kind == api.ItemExpr && !isGroup(bound), api.ErrForm)
		}
	}
	for _, e := range s.Order {
		bound, _, code := boundOf(scope, e)
		l.say(true, code)
		l.say(grouped && !isGroup(bound), api.ErrForm)
	}
	l.say(!grouped && count > api.MaxItems, api.ErrForm)
}

func (l *faults) create(s api.Statement, there bool) {
	names := map[string]bool{}
	for _, c := range s.Columns {
		names[c.Name] = true
	}
	l.say(len(names) < len(s.Columns), api.ErrDouble)
	l.say(!names[s.Primary], api.ErrColumn)
	l.say(there, api.ErrDouble)
}

// faultOf is what Statement must answer, where there are these tables.
func faultOf(tables []api.Table, s api.Statement) api.Errno {
	if !rightStatement(s) {
		return api.ErrForm
	}
	place := func(name string) int {
		return slices.IndexFunc(tables, func(t api.Table) bool { return t.Name == name })
	}
	at, other := place(s.Table), place(s.Join)
	var l faults
	switch {
	case s.Kind == api.StCreate:
		l.create(s, at >= 0)
	case at < 0:
		l.say(true, api.ErrTable)
	case s.Kind == api.StInsert:
		l.insert(tables[at], s.Rows)
	case s.Kind == api.StUpdate:
		l.update(tables[at], s)
	case s.Kind == api.StDelete:
		l.where(tables[at:at+1], s.Where)
	case s.Kind == api.StSelect && s.Join == "":
		l.selects(tables[at:at+1], s)
	case s.Kind == api.StSelect:
		l.say(other < 0, api.ErrTable)
		l.say(other == at, api.ErrDouble)
		if len(l) == 0 {
			l.selects([]api.Table{tables[at], tables[other]}, s)
		}
	}
	return append(l, api.OK)[0]
}

// like tells whether two expressions are the same, where an empty list is as none.
func like(a, b api.Expr) bool {
	return a.Kind == b.Kind && a.Op == b.Op && a.Table == b.Table && a.Name == b.Name && a.Value == b.Value && slices.EqualFunc(a.Args, b.Args, like)
}

// holdBind holds Bind against the words, and tells its error.
func holdBind(t *testing.T, scope []api.Table, e api.Expr) api.Errno {
	t.Helper()
	want, kind, code := boundOf(scope, e)
	for range 2 {
		if got, k, c := check.Bind(scope, e); c != code || k != kind || !like(got, want) {
			t.Fatalf("Bind(%+v, %+v): %+v, %d, %d, not %+v, %d, %d", scope, e, got, k, c, want, kind, code)
		}
	}
	return code
}

// holdStatement holds Statement against the words, and tells its error.
func holdStatement(t *testing.T, c *catalog.Catalog, s api.Statement) api.Errno {
	t.Helper()
	want := faultOf(c.All(), s)
	for range 2 {
		if e := check.Statement(c, s); e != want {
			t.Fatalf("Statement(%+v, %+v): %d, not %d", c.All(), s, e, want)
		}
	}
	return want
}
