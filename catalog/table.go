package catalog

import (
	"slices"
	"strings"

	"vestry/api"
	"vestry/parse"
	"vestry/printer"
)

// noLimit is the Limit of a statement that has none.
const noLimit = -1

// Make makes a table of a statement.
func Make(s api.Statement) (api.Table, api.Errno) {
	if !rightCreate(s) {
		return api.Table{}, api.ErrForm
	}
	for i, c := range s.Columns {
		if place(s.Columns, c.Name) != i {
			return api.Table{}, api.ErrDouble
		}
	}
	primary := place(s.Columns, s.Primary)
	if primary < 0 {
		return api.Table{}, api.ErrColumn
	}
	t := clone(api.Table{Name: s.Table, Columns: s.Columns, Primary: primary})
	t.Columns[primary].NotNull = true
	t.Columns[primary].Unique = true
	return t, api.OK
}

// Source is a table as a source.
func Source(t api.Table) (string, api.Errno) {
	if !mayBe(t) {
		return "", api.ErrForm
	}
	return printer.Script(create(t))
}

// Read is the way back.
func Read(s string) (api.Table, api.Errno) {
	l, f := parse.Script(s)
	if f.Code != api.OK || len(l) != 1 {
		return api.Table{}, api.ErrForm
	}
	t, e := Make(l[0])
	if e != api.OK {
		return api.Table{}, api.ErrForm
	}
	// Many sources are read as one table; only one of them is its own.
	if own, _ := Source(t); own != s {
		return api.Table{}, api.ErrForm
	}
	return t, api.OK
}

// rightCreate tells whether a statement is a StCreate that is right. What is
// right is written without an error: no StCreate is long, or has anything deep.
func rightCreate(s api.Statement) bool {
	if s.Kind != api.StCreate {
		return false
	}
	_, e := printer.Script(s)
	return e == api.OK
}

// mayBe tells whether a table may be: if any statement makes it, then the one
// that is written of it.
func mayBe(t api.Table) bool {
	if t.Primary < 0 || t.Primary >= len(t.Columns) {
		return false
	}
	made, e := Make(create(t))
	return e == api.OK && slices.Equal(made.Columns, t.Columns)
}

// create is the StCreate of a table's columns as they are. The place of its
// primary column must be one of them.
func create(t api.Table) api.Statement {
	return api.Statement{
		Kind:    api.StCreate,
		Table:   t.Name,
		Columns: t.Columns,
		Primary: t.Columns[t.Primary].Name,
		Limit:   noLimit,
	}
}

// place is that of the first column of a name, or below 0, if there is none.
func place(l []api.Column, name string) int {
	return slices.IndexFunc(l, func(c api.Column) bool { return c.Name == name })
}

// clone is a table in memory of its own.
func clone(t api.Table) api.Table {
	t.Name = strings.Clone(t.Name)
	t.Columns = slices.Clone(t.Columns)
	for i, c := range t.Columns {
		t.Columns[i].Name = strings.Clone(c.Name)
	}
	return t
}
