package exec

import (
	"iter"
	"slices"

	"vestry/api"
	"vestry/eval"
	"vestry/value"
)

// Select selects out of rows.
func Select(s api.Statement, l []api.Table, rows ...[][]api.Value) ([][]api.Value, api.Errno) {
	if s.Kind != api.StSelect || len(rows) != len(l) || len(l) != tablesOf(s) {
		return nil, api.ErrArg
	}
	s, code := bind(s, l...)
	if code != api.OK {
		return nil, code
	}
	chosen, code := choose(joined(rows[0], rows[1:]...), slices.Concat(s.On, s.Where)...)
	if code != api.OK {
		return nil, code
	}
	records, code := recordsOf(s, chosen)
	if code != api.OK {
		return nil, code
	}
	answer, code := rowsOf(s, records)
	if code != api.OK {
		return nil, code
	}
	if s.Limit >= 0 {
		answer = answer[:min(s.Limit, len(answer))]
	}
	if len(answer) > api.MaxResult {
		return nil, api.ErrFull
	}
	return own(answer), api.OK
}

// tablesOf is how many tables a StSelect has.
func tablesOf(s api.Statement) int {
	if s.Join == "" {
		return 1
	}
	return 2
}

// isGrouped tells whether a StSelect is grouped.
func isGrouped(s api.Statement) bool {
	return len(s.Group) > 0 || slices.ContainsFunc(s.Items, func(i api.Item) bool {
		return api.ItemRows <= i.Kind && i.Kind <= api.ItemMax
	})
}

// record is what is reckoned of a row.
type record struct {
	items [][]api.Value // what each item takes of it
	by    []api.Value   // the value of Group, if the StSelect is grouped, else that of Order, where there is one
}

// choose are those rows of which all conditions are true.
func choose(rows iter.Seq[[]api.Value], conditions ...api.Expr) ([][]api.Value, api.Errno) {
	var chosen [][]api.Value
	for row := range rows {
		yes, code := meets(row, conditions...)
		if code != api.OK {
			return nil, code
		}
		if yes {
			chosen = append(chosen, row)
		}
	}
	return chosen, api.OK
}

// recordsOf are the records of rows, in the order in which they are answered,
// or grouped.
func recordsOf(s api.Statement, rows [][]api.Value) ([]record, api.Errno) {
	var records []record
	for row := range joined(rows) {
		r, code := recordOf(s, row)
		if code != api.OK {
			return nil, code
		}
		records = append(records, r)
	}
	slices.SortStableFunc(records, func(a, b record) int {
		// Not turned round behind the sort: what is alike stays as it stood.
		if s.Desc {
			a, b = b, a
		}
		return slices.CompareFunc(a.by, b.by, value.Compare)
	})
	return records, api.OK
}

// recordOf is the record of a row.
func recordOf(s api.Statement, row []api.Value) (record, api.Errno) {
	var r record
	for _, item := range s.Items {
		taken, code := reckon(row, item.Args...)
		if code != api.OK {
			return record{}, code
		}
		if item.Kind == api.ItemAll {
			taken = row
		}
		r.items = append(r.items, taken)
	}
	by := s.Order
	if isGrouped(s) {
		by = s.Group
	}
	// It is a column: so it has no error that might be told too late here.
	var code api.Errno
	r.by, code = reckon(row, by...)
	return r, code
}

// reckon are the values of expressions over a row.
func reckon(row []api.Value, exprs ...api.Expr) ([]api.Value, api.Errno) {
	var l []api.Value
	for _, e := range exprs {
		v, code := eval.Eval(e, row)
		if code != api.OK {
			return nil, code
		}
		l = append(l, v)
	}
	return l, api.OK
}

// rowsOf are the rows that a StSelect makes of records.
func rowsOf(s api.Statement, records []record) ([][]api.Value, api.Errno) {
	var l [][]api.Value
	if !isGrouped(s) {
		for _, r := range records {
			l = append(l, slices.Concat(r.items...))
		}
		return l, api.OK
	}
	for group := range groups(s, records) {
		var row []api.Value
		for i, item := range s.Items {
			v, code := summary(item.Kind, i, group...)
			if code != api.OK {
				return nil, code
			}
			row = append(row, v)
		}
		l = append(l, row)
	}
	return l, api.OK
}

// groups goes over the groups of records, which stand by what they are grouped by.
func groups(s api.Statement, records []record) iter.Seq[[]record] {
	return func(yield func(group []record) bool) {
		// All are one group then, also none.
		if len(s.Group) == 0 {
			yield(records)
			return
		}
		for len(records) > 0 {
			n := slices.IndexFunc(records, func(r record) bool { return !slices.Equal(r.by, records[0].by) })
			if n < 0 {
				n = len(records)
			}
			if !yield(records[:n]) {
				return
			}
			records = records[n:]
		}
	}
}

// summary is what an item of a kind, at a place, makes of a group.
func summary(kind, place int, group ...record) (api.Value, api.Errno) {
	var there []api.Value // the values that are not null
	for _, r := range group {
		for _, v := range r.items[place] {
			if v.Kind != api.KindNull {
				there = append(there, v)
			}
		}
	}
	switch kind {
	case api.ItemRows:
		return number(len(group)), api.OK
	case api.ItemCount:
		return number(len(there)), api.OK
	}
	if len(there) == 0 {
		return api.Value{}, api.OK
	}
	switch kind {
	case api.ItemSum:
		return sum(there...)
	case api.ItemMin:
		return slices.MinFunc(there, value.Compare), api.OK
	case api.ItemMax:
		return slices.MaxFunc(there, value.Compare), api.OK
	}
	// An ItemExpr is Group: all its values are this one.
	return there[0], api.OK
}

// number is the value of a number.
func number(n int) api.Value { return api.Value{Kind: api.KindNum, Num: n} }

// sum is that of values, one by one.
func sum(l ...api.Value) (api.Value, api.Errno) {
	all := number(0)
	for _, v := range l {
		var code api.Errno
		if all, code = eval.Op(api.OpAdd, all, v); code != api.OK {
			return api.Value{}, code
		}
	}
	return all, api.OK
}
