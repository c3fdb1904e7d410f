package check

import (
	"slices"

	"vestry/api"
	"vestry/catalog"
)

// selection is what the items and the order of a StSelect are held against.
type selection struct {
	scope   []api.Table
	grouped bool
	group   []api.Expr // Group, bound
}

// selects is what is wrong with a StSelect, of which t is the first table.
func selects(c *catalog.Catalog, t api.Table, s api.Statement) api.Errno {
	scope, code := scopeOf(c, t, s.Join)
	if code != api.OK {
		return code
	}
	if code := each(slices.Concat(s.On, s.Where), condition(scope...)); code != api.OK {
		return code
	}
	x := selection{scope: scope, grouped: isGrouped(s)}
	code = each(s.Group, func(e api.Expr) api.Errno {
		bound, _, code := Bind(scope, e)
		x.group = append(x.group, bound)
		return code
	})
	if code != api.OK {
		return code
	}
	if code := each(s.Items, x.item); code != api.OK {
		return code
	}
	if code := each(s.Order, x.order); code != api.OK {
		return code
	}
	if !x.grouped && x.width(s.Items) > api.MaxItems {
		return api.ErrForm
	}
	return api.OK
}

// scopeOf are the table and the one that is joined to it, if there is one.
func scopeOf(c *catalog.Catalog, t api.Table, join string) ([]api.Table, api.Errno) {
	if join == "" {
		return []api.Table{t}, api.OK
	}
	other, there := c.Find(join)
	switch {
	case !there:
		return nil, api.ErrTable
	case other.Name == t.Name:
		return nil, api.ErrDouble
	}
	return []api.Table{t, other}, api.OK
}

// isGrouped tells whether a StSelect is grouped.
func isGrouped(s api.Statement) bool {
	return len(s.Group) > 0 || slices.ContainsFunc(s.Items, func(i api.Item) bool {
		return api.ItemRows <= i.Kind && i.Kind <= api.ItemMax
	})
}

// item is what is wrong with one.
func (x selection) item(i api.Item) api.Errno {
	if i.Kind == api.ItemAll && x.grouped {
		return api.ErrForm
	}
	return each(i.Args, func(e api.Expr) api.Errno {
		bound, kind, code := Bind(x.scope, e)
		switch {
		case code != api.OK:
			return code
		case i.Kind == api.ItemSum && kind == api.KindText:
			return api.ErrType
		case i.Kind == api.ItemExpr && x.grouped && !x.isGroup(bound):
			return api.ErrForm
		}
		return api.OK
	})
}

// order is what is wrong with it.
func (x selection) order(e api.Expr) api.Errno {
	bound, _, code := Bind(x.scope, e)
	if code == api.OK && x.grouped && !x.isGroup(bound) {
		return api.ErrForm
	}
	return code
}

// isGroup tells whether a bound expression is the same as Group. That is a
// column: so its number is all that there is to compare.
func (x selection) isGroup(e api.Expr) bool {
	return len(x.group) == 1 && e.Kind == api.ExprColumn && e.Value == x.group[0].Value
}

// width is how many columns items have.
func (x selection) width(items []api.Item) int {
	all := 0
	for _, t := range x.scope {
		all += len(t.Columns)
	}
	n := 0
	for _, i := range items {
		if i.Kind == api.ItemAll {
			n += all
		} else {
			n++
		}
	}
	return n
}
