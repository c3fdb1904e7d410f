package check_test

import (
	"math/rand"
	"testing"

	"vestry/api"
	"vestry/catalog"
	"vestry/parse"
)

// exampleScope are the tables of the chapter's examples.
const exampleScope = "CREATE TABLE t (id INT, n INT, s TEXT, PRIMARY KEY (id)); CREATE TABLE u (id INT, k TEXT, PRIMARY KEY (id))"

// tablesOf are those of a script.
func tablesOf(t *testing.T, script string) []api.Table {
	t.Helper()
	var l []api.Table
	for _, s := range statements(t, script) {
		x, e := catalog.Make(s)
		if e != api.OK {
			t.Fatalf("%q: %d", script, e)
		}
		l = append(l, x)
	}
	return l
}

// catalogOf is a catalog of the tables of a script.
func catalogOf(t *testing.T, script string) *catalog.Catalog {
	t.Helper()
	return holding(t, tablesOf(t, script)...)
}

// holding is a catalog of tables.
func holding(t *testing.T, l ...api.Table) *catalog.Catalog {
	t.Helper()
	c := catalog.New()
	for _, x := range l {
		if e := c.Add(x); e != api.OK {
			t.Fatalf("Add(%+v): %d", x, e)
		}
	}
	return c
}

// statements are those of a script.
func statements(t *testing.T, script string) []api.Statement {
	t.Helper()
	l, f := parse.Script(script)
	if f.Code != api.OK {
		t.Fatalf("%q: %v", script, f)
	}
	return l
}

// expr is that of a source.
func expr(t *testing.T, source string) api.Expr {
	t.Helper()
	e, f := parse.One(source)
	if f.Code != api.OK {
		t.Fatalf("%q: %v", source, f)
	}
	return e
}

func null() api.Expr           { return api.Expr{Kind: api.ExprValue} }
func num(n int) api.Expr       { return valued(api.Value{Kind: api.KindNum, Num: n}) }
func text(s string) api.Expr   { return valued(api.Value{Kind: api.KindText, Text: s}) }
func name(s string) api.Expr   { return api.Expr{Kind: api.ExprColumn, Name: s} }
func of(t, s string) api.Expr  { return api.Expr{Kind: api.ExprColumn, Table: t, Name: s} }
func not(e api.Expr) api.Expr  { return api.Expr{Kind: api.ExprNot, Args: []api.Expr{e}} }
func neg(e api.Expr) api.Expr  { return api.Expr{Kind: api.ExprNeg, Args: []api.Expr{e}} }
func isnt(e api.Expr) api.Expr { return api.Expr{Kind: api.ExprNull, Args: []api.Expr{e}} }

func valued(v api.Value) api.Expr { return api.Expr{Kind: api.ExprValue, Value: v} }

func op(o int, a, b api.Expr) api.Expr {
	return api.Expr{Kind: api.ExprOp, Op: o, Args: []api.Expr{a, b}}
}

// numbered is a bound column.
func numbered(n int) api.Expr {
	return api.Expr{Kind: api.ExprColumn, Value: api.Value{Kind: api.KindNum, Num: n}}
}

// numColumn and textColumn are columns.
func numColumn(name string) api.Column  { return api.Column{Name: name, Kind: api.KindNum} }
func textColumn(name string) api.Column { return api.Column{Name: name, Kind: api.KindText} }

// bare is a table of columns, whatever they are.
func bare(name string, l ...api.Column) api.Table { return api.Table{Name: name, Columns: l} }

// maker makes things at random, of few names, so that these often meet.
type maker struct{ *rand.Rand }

func newMaker(seed int64) maker { return maker{rand.New(rand.NewSource(seed))} }

func pick[T any](m maker, l ...T) T { return l[m.Intn(len(l))] }

// rare is true once in so many times.
func (m maker) rare(n int) bool { return m.Intn(n) == 0 }

func (m maker) tableName() string  { return pick(m, "t", "u", "v", "a") }
func (m maker) columnName() string { return pick(m, "a", "b", "c", "d", "t") }

// anyTable is one that may not be: names are there twice.
func (m maker) anyTable() api.Table {
	x := api.Table{Name: m.tableName(), Primary: m.Intn(3) - 1}
	for range m.Intn(6) {
		x.Columns = append(x.Columns, api.Column{Name: m.columnName(), Kind: 1 + m.Intn(2), NotNull: m.rare(2), Unique: m.rare(2)})
	}
	return x
}

func (m maker) anyTables() []api.Table {
	var l []api.Table
	for range m.Intn(4) {
		l = append(l, m.anyTable())
	}
	return l
}

// create is a statement of a table that may be.
func (m maker) create() api.Statement {
	s := api.Statement{Kind: api.StCreate, Table: m.tableName(), Limit: -1}
	names := []string{"a", "b", "c", "d", "t", "e", "f", "g"}
	for _, i := range m.Perm(1 + pick(m, 0, 1, 2, 3, 4, 7)) {
		s.Columns = append(s.Columns, api.Column{Name: names[i], Kind: 1 + m.Intn(2), NotNull: m.rare(2), Unique: m.rare(2)})
	}
	s.Primary = pick(m, s.Columns...).Name
	return s
}

// catalog has some tables.
func (m maker) catalog() *catalog.Catalog {
	c := catalog.New()
	for range m.Intn(4) {
		x, _ := catalog.Make(m.create())
		c.Add(x)
	}
	return c
}

func (m maker) value() api.Value {
	return pick(m, api.Value{}, api.Value{Kind: api.KindNum, Num: pick(m, 0, 1, -5, api.MaxInt, api.MinInt+1)}, api.Value{Kind: api.KindText, Text: pick(m, "", "a", "it's")})
}

func (m maker) column() api.Expr {
	e := name(m.columnName())
	if m.rare(2) {
		e.Table = m.tableName()
	}
	return e
}

// expr has at most so many parts within one another.
func (m maker) expr(deep int) api.Expr {
	if deep == 0 || m.rare(3) {
		return pick(m, m.column(), m.column(), valued(m.value()))
	}
	a := m.expr(deep - 1)
	return pick(m, not(a), neg(a), isnt(a), op(1+m.Intn(13), a, m.expr(deep-1)), op(api.OpEq+m.Intn(6), a, m.expr(deep-1)))
}

// maybe is one expression, or none.
func (m maker) maybe(make func() api.Expr) []api.Expr {
	if m.rare(2) {
		return nil
	}
	return []api.Expr{make()}
}

func (m maker) shallow() api.Expr { return m.expr(m.Intn(3)) }

func (m maker) item() api.Item {
	i := api.Item{Kind: pick(m, 1, 2, 2, 2, 3, 4, 5, 6, 7)}
	if i.Kind != api.ItemAll && i.Kind != api.ItemRows {
		i.Args = []api.Expr{pick(m, m.column(), m.shallow())}
	}
	return i
}

// fitting are rows for a table, now and then with one value too many, too few, or of another kind.
func (m maker) fitting(t api.Table) [][]api.Value {
	var rows [][]api.Value
	for range 1 + m.Intn(3) {
		var row []api.Value
		for _, c := range t.Columns {
			v := m.value()
			for v.Kind != api.KindNull && v.Kind != c.Kind && !m.rare(30) {
				v = m.value()
			}
			row = append(row, v)
		}
		if m.rare(10) || len(row) == 0 {
			row = append(row, m.value())
		}
		if m.rare(10) && len(row) > 1 {
			row = row[1:]
		}
		rows = append(rows, row[:min(len(row), api.MaxColumns)])
	}
	return rows
}

// statement is one that is right.
func (m maker) statement(c *catalog.Catalog) api.Statement {
	s := api.Statement{Kind: pick(m, 1, 2, 3, 4, 4, 5, 6, 6, 6), Table: m.tableName(), Limit: -1}
	switch s.Kind {
	case api.StCreate:
		s = m.create()
		if m.rare(4) {
			s.Columns[m.Intn(len(s.Columns))].Name = m.columnName()
		}
		if m.rare(4) {
			s.Primary = m.columnName()
		}
	case api.StInsert:
		t, _ := c.Find(s.Table)
		s.Rows = m.fitting(t)
	case api.StUpdate:
		for range 1 + m.Intn(3) {
			s.Sets = append(s.Sets, api.Set{Name: m.columnName(), Expr: m.shallow()})
		}
		s.Where = m.maybe(m.shallow)
	case api.StDelete:
		s.Where = m.maybe(m.shallow)
	case api.StSelect:
		s.Items = append(s.Items, m.item())
		for m.rare(2) && len(s.Items) < api.MaxItems {
			s.Items = append(s.Items, pick(m, m.item(), s.Items[0]))
		}
		if m.rare(2) {
			s.Join, s.On = m.tableName(), []api.Expr{m.shallow()}
		}
		s.Where, s.Group, s.Order = m.maybe(m.shallow), m.maybe(m.column), m.maybe(m.column)
		if len(s.Group) == 1 && m.rare(2) {
			s.Items[0] = api.Item{Kind: api.ItemExpr, Args: s.Group}
			s.Order = m.maybe(func() api.Expr { return pick(m, s.Group[0], m.column()) })
		}
		s.Desc, s.Limit = len(s.Order) == 1 && m.rare(2), m.Intn(4)-1
	}
	return s
}
