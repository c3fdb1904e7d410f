package exec

import (
	"slices"

	"vestry/api"
	"vestry/eval"
	"vestry/value"
)

// Change changes a table's rows.
func Change(s api.Statement, t api.Table, rows [][]api.Value) ([][]api.Value, int, api.Errno) {
	if !isChange(s, t) || !fit(t, rows...) || !fit(t, s.Rows...) {
		return nil, 0, api.ErrArg
	}
	s, code := bind(s, t)
	if code != api.OK {
		return nil, 0, code
	}
	var after [][]api.Value
	count := 0
	switch s.Kind {
	case api.StInsert:
		after, count, code = insert(t, rows, s.Rows...)
	case api.StUpdate:
		after, count, code = update(s, t, rows)
	case api.StDelete:
		after, count, code = remove(s, rows)
	}
	if code != api.OK {
		return nil, 0, code
	}
	slices.SortStableFunc(after, func(a, b []api.Value) int {
		return value.Compare(a[t.Primary], b[t.Primary])
	})
	return own(after), count, api.OK
}

// isChange tells whether a statement changes a table, which has a primary column.
func isChange(s api.Statement, t api.Table) bool {
	if s.Table != t.Name || t.Primary < 0 || t.Primary >= len(t.Columns) {
		return false
	}
	return s.Kind == api.StInsert || s.Kind == api.StUpdate || s.Kind == api.StDelete
}

// fit tells whether rows have as many values as a table has columns.
func fit(t api.Table, rows ...[]api.Value) bool {
	return !slices.ContainsFunc(rows, func(row []api.Value) bool { return len(row) != len(t.Columns) })
}

// lacks tells whether a row has a null, where the table may have none.
func lacks(t api.Table, row []api.Value) bool {
	for i, c := range t.Columns {
		if c.NotNull && row[i].Kind == api.KindNull {
			return true
		}
	}
	return false
}

// doubles tells whether a row has a value, in a column where none may be there
// twice, that another one has.
func doubles(t api.Table, row []api.Value, others ...[]api.Value) bool {
	for i, c := range t.Columns {
		if !c.Unique || row[i].Kind == api.KindNull {
			continue
		}
		if slices.ContainsFunc(others, func(other []api.Value) bool { return other[i] == row[i] }) {
			return true
		}
	}
	return false
}

// insert puts more rows to those of a table, and tells how many.
func insert(t api.Table, rows [][]api.Value, more ...[]api.Value) ([][]api.Value, int, api.Errno) {
	there := slices.Clone(rows)
	for row := range joined(more) {
		switch {
		case lacks(t, row):
			return nil, 0, api.ErrNull
		case doubles(t, row, there...):
			return nil, 0, api.ErrDouble
		case len(there) >= api.MaxTable:
			return nil, 0, api.ErrFull
		}
		there = append(there, row)
	}
	return there, len(more), api.OK
}

// update changes those rows of which Where is true, and tells how many.
func update(s api.Statement, t api.Table, rows [][]api.Value) ([][]api.Value, int, api.Errno) {
	var after [][]api.Value
	count := 0
	for row := range joined(rows) {
		yes, code := meets(row, s.Where...)
		if yes {
			row, code = set(t, row, s.Sets...)
			count++
		}
		if code != api.OK {
			return nil, 0, code
		}
		after = append(after, row)
	}
	// Only now: a value may pass from one row to another.
	for i, row := range after {
		if doubles(t, row, after[:i]...) {
			return nil, 0, api.ErrDouble
		}
	}
	return after, count, api.OK
}

// set is a row of a table with what sets give it: all are reckoned over the row
// as it was.
func set(t api.Table, row []api.Value, sets ...api.Set) ([]api.Value, api.Errno) {
	after := slices.Clone(row)
	for _, one := range sets {
		v, code := eval.Eval(one.Expr, row)
		if code != api.OK {
			return nil, code
		}
		at := slices.IndexFunc(t.Columns, func(c api.Column) bool { return c.Name == one.Name })
		if at < 0 {
			return nil, api.ErrColumn
		}
		after[at] = v
	}
	if lacks(t, after) {
		return nil, api.ErrNull
	}
	return after, api.OK
}

// remove takes away those rows of which Where is true, and tells how many.
func remove(s api.Statement, rows [][]api.Value) ([][]api.Value, int, api.Errno) {
	var left [][]api.Value
	for row := range joined(rows) {
		yes, code := meets(row, s.Where...)
		if code != api.OK {
			return nil, 0, code
		}
		if !yes {
			left = append(left, row)
		}
	}
	return left, len(rows) - len(left), api.OK
}
