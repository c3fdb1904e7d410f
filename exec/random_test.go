package exec_test

import (
	"math/rand"
	"slices"
	"sort"
	"strings"
	"testing"

	"vestry/api"
	"vestry/catalog"
)

// maker makes things at random, of few names and values, so that these often meet.
type maker struct{ *rand.Rand }

func newMaker(seed int64) maker { return maker{rand.New(rand.NewSource(seed))} }

func pick[T any](m maker, l ...T) T { return l[m.Intn(len(l))] }

// rare is true once in so many times.
func (m maker) rare(n int) bool { return m.Intn(n) == 0 }

// table is one that may be.
func (m maker) table(name string) api.Table {
	s := api.Statement{Kind: api.StCreate, Table: name, Limit: -1}
	names := []string{"a", "b", "c", "d", "e", "f", "g", "h"}
	for _, i := range m.Perm(1 + m.Intn(4)) {
		s.Columns = append(s.Columns, api.Column{Name: names[i+m.Intn(2)*4], Kind: 1 + m.Intn(2), NotNull: m.rare(3), Unique: m.rare(4)})
	}
	s.Primary = pick(m, s.Columns...).Name
	x, _ := catalog.Make(s)
	return x
}

// value is one for a column.
func (m maker) value(c api.Column) api.Value {
	switch {
	case m.rare(5) && !(c.NotNull && m.rare(8)):
		return null
	case c.Kind == api.KindText && (c.Unique || m.rare(4)):
		return text(strings.Repeat(pick(m, "a", "b", "'", "\x00", "\xff"), m.Intn(4)) + pick(m, "", "c", "d", "e"))
	case c.Kind == api.KindText:
		return text(pick(m, "", "a", "b", strings.Repeat("z", api.MaxText)))
	case c.Unique:
		return num(m.Intn(120) - 60)
	case m.rare(25):
		return num(pick(m, api.MaxInt, api.MinInt+1, api.MaxInt/2+1))
	}
	return num(m.Intn(5) - 2)
}

func (m maker) row(x api.Table) []api.Value {
	var row []api.Value
	for _, c := range x.Columns {
		row = append(row, m.value(c))
	}
	return row
}

// rows are at most so many of a table.
func (m maker) rows(x api.Table, most int) rows {
	var l rows
	for range most {
		row := m.row(x)
		if nulls, doubles := faultsOf(x, row, l); !nulls && !doubles && len(l) < api.MaxTable {
			l = append(l, row)
		}
	}
	sort.Slice(l, func(i, j int) bool { return orderOf(l[i][x.Primary], l[j][x.Primary]) < 0 })
	return l
}

func op(o int, l ...api.Expr) api.Expr    { return api.Expr{Kind: api.ExprOp, Op: o, Args: l} }
func of(kind int, l ...api.Expr) api.Expr { return api.Expr{Kind: kind, Args: l} }
func valued(v api.Value) api.Expr         { return api.Expr{Kind: api.ExprValue, Value: v} }
func name(s string) api.Expr              { return api.Expr{Kind: api.ExprColumn, Name: s} }
func where(e api.Expr) []api.Expr         { return []api.Expr{e} }

// column is one of a kind (or of any, if that is 0), or a value, if there is none.
func (m maker) column(scope []api.Table, kind int) api.Expr {
	var l []api.Expr
	for _, t := range scope {
		for _, c := range t.Columns {
			if kind == 0 || c.Kind == kind {
				e := api.Expr{Kind: api.ExprColumn, Table: t.Name, Name: c.Name}
				held := func(t api.Table) bool {
					return slices.ContainsFunc(t.Columns, func(o api.Column) bool { return o.Name == c.Name })
				}
				// Without its table it may mean none, but where only one has it.
				if m.rare(2) && (len(scope) == 1 || held(scope[0]) != held(scope[1])) {
					e.Table = ""
				}
				l = append(l, e)
			}
		}
	}
	if len(l) == 0 {
		return valued(null)
	}
	return pick(m, l...)
}

// texts is an expression whose kind is that of texts.
func (m maker) texts(scope []api.Table) api.Expr {
	if m.rare(3) {
		return valued(pick(m, null, text(""), text("a"), text("b"), text("it's")))
	}
	return m.column(scope, api.KindText)
}

// numbers is an expression whose kind is that of numbers, with at most so many
// parts within one another.
func (m maker) numbers(scope []api.Table, deep int) api.Expr {
	if deep == 0 {
		if m.rare(3) {
			return valued(pick(m, null, num(0), num(1), num(2), num(-1), num(7), num(pick(m, 3, 3, api.MaxInt))))
		}
		return m.column(scope, api.KindNum)
	}
	deep = m.Intn(deep)
	a, b := m.numbers(scope, deep), m.numbers(scope, deep)
	switch m.Intn(10) {
	case 0, 1:
		return op(pick(m, api.OpAdd, api.OpSub), a, b)
	case 2:
		return op(pick(m, api.OpMul, api.OpAdd, api.OpDiv, api.OpMod), a, b)
	case 3:
		return of(pick(m, api.ExprNot, api.ExprNeg), a)
	case 4:
		return of(api.ExprNull, pick(m, a, m.texts(scope)))
	case 5:
		return op(pick(m, api.OpAnd, api.OpOr), a, b)
	case 6, 7:
		return op(api.OpEq+m.Intn(6), m.texts(scope), m.texts(scope))
	}
	return op(api.OpEq+m.Intn(6), a, b)
}

func (m maker) any(scope []api.Table) api.Expr {
	return pick(m, m.texts(scope), m.numbers(scope, 0), m.numbers(scope, m.Intn(3)))
}

// maybe is a condition, or none.
func (m maker) maybe(scope []api.Table) []api.Expr {
	if m.rare(3) {
		return nil
	}
	return where(m.numbers(scope, m.Intn(4)))
}

// selection is a StSelect of one table, or two, most often one that check takes.
func (m maker) selection(scope []api.Table) api.Statement {
	s := api.Statement{Kind: api.StSelect, Table: scope[0].Name, Limit: pick(m, -1, -1, m.Intn(6), 199, 200, 201)}
	if len(scope) == 2 {
		s.Join, s.On = scope[1].Name, where(pick(m, valued(num(1)), m.numbers(scope, m.Intn(3))))
	}
	s.Where = m.maybe(scope)
	if m.rare(2) {
		m.group(&s, scope)
		return s
	}
	for range 1 + m.Intn(3) {
		s.Items = append(s.Items, pick(m, api.Item{Kind: api.ItemAll}, api.Item{Kind: api.ItemExpr, Args: where(m.any(scope))}))
	}
	if m.rare(2) {
		if e := m.column(scope, 0); e.Kind == api.ExprColumn {
			s.Order, s.Desc = where(e), m.rare(2)
		}
	}
	return s
}

// group makes a StSelect one that is grouped.
func (m maker) group(s *api.Statement, scope []api.Table) {
	if e := m.column(scope, 0); e.Kind == api.ExprColumn && !m.rare(3) {
		s.Group = where(e)
		if m.rare(2) {
			s.Order, s.Desc = where(e), m.rare(2)
		}
	}
	for range 1 + m.Intn(4) {
		i := api.Item{Kind: pick(m, api.ItemExpr, api.ItemRows, api.ItemCount, api.ItemSum, api.ItemSum, api.ItemMin, api.ItemMax)}
		switch {
		case i.Kind == api.ItemExpr && len(s.Group) == 0:
			i.Kind = api.ItemRows
		case i.Kind == api.ItemExpr:
			i.Args = s.Group
		case i.Kind == api.ItemSum:
			i.Args = where(m.numbers(scope, m.Intn(3)))
		case i.Kind != api.ItemRows:
			i.Args = where(m.any(scope))
		}
		s.Items = append(s.Items, i)
	}
	if len(s.Group) == 0 && !isGrouped(*s) {
		s.Items = append(s.Items, api.Item{Kind: api.ItemRows})
	}
}

// change is a statement that changes a table, most often one that check takes.
func (m maker) change(x api.Table) api.Statement {
	s := api.Statement{Kind: pick(m, api.StInsert, api.StUpdate, api.StUpdate, api.StDelete), Table: x.Name, Limit: -1}
	scope := []api.Table{x}
	switch s.Kind {
	case api.StInsert:
		for range 1 + m.Intn(4) {
			s.Rows = append(s.Rows, m.row(x))
		}
	case api.StUpdate:
		for _, i := range m.Perm(len(x.Columns))[:1+m.Intn(min(2, len(x.Columns)))] {
			c := x.Columns[i]
			e := m.numbers(scope, m.Intn(3))
			if c.Kind == api.KindText {
				e = m.texts(scope)
			} else if c.Unique { // so that values are not alike too often
				e = op(pick(m, api.OpAdd, api.OpSub, api.OpMul), name(c.Name), valued(num(pick(m, 1, -1, 2, 50))))
			}
			s.Sets = append(s.Sets, api.Set{Name: c.Name, Expr: e})
		}
		s.Where = m.maybe(scope)
	case api.StDelete:
		s.Where = m.maybe(scope)
	}
	return s
}

// scope are one table or two, with rows.
func (m maker) scope() ([]api.Table, []rows) {
	scope := []api.Table{m.table("t"), m.table("u")}[:1+m.Intn(2)]
	var all []rows
	for _, x := range scope {
		all = append(all, m.rows(x, pick(m, 0, 1, 3, 8, 12, 30, 60)))
	}
	return scope, all
}

// wantSeen holds that each of these was seen often enough.
func wantSeen(t *testing.T, seen map[api.Errno]int, least int, l ...api.Errno) {
	t.Helper()
	for _, code := range l {
		if seen[code] < least {
			t.Errorf("%d was seen but %d times", code, seen[code])
		}
	}
}

func TestRandomSelects(t *testing.T) { // P16.1
	m := newMaker(1)
	seen, taken := map[api.Errno]int{}, 0
	for range 15000 {
		scope, all := m.scope()
		s := m.selection(scope)
		if !promised(s, scope, all...) {
			continue
		}
		taken++
		_, code := holdSelect(t, s, scope, all...)
		seen[code]++
	}
	if taken < 10000 {
		t.Errorf("but %d were taken", taken)
	}
	wantSeen(t, seen, 50, api.OK, api.ErrNum, api.ErrDiv, api.ErrFull)
}

func TestRandomChanges(t *testing.T) { // P16.2, P16.4
	m := newMaker(2)
	seen, taken := map[api.Errno]int{}, 0
	for range 30000 {
		x := m.table("t")
		there := m.rows(x, pick(m, 0, 2, 5, 12, 100))
		s := m.change(x)
		if !promised(s, []api.Table{x}, there) {
			continue
		}
		taken++
		_, _, code := holdChange(t, s, x, there)
		seen[code]++
	}
	if taken < 20000 {
		t.Errorf("but %d were taken", taken)
	}
	wantSeen(t, seen, 50, api.OK, api.ErrNum, api.ErrDiv, api.ErrNull, api.ErrDouble, api.ErrFull)
}

func TestChangesOneBehindAnother(t *testing.T) { // P16.2, P16.4
	m := newMaker(3)
	for range 300 {
		x := m.table("t")
		var there rows
		for range 40 {
			s := m.change(x)
			if s.Kind == api.StDelete && !m.rare(5) || !promised(s, []api.Table{x}, there) {
				continue
			}
			if after, _, code := holdChange(t, s, x, there); code == api.OK {
				there = after
			}
			all := api.Statement{Kind: api.StSelect, Table: "t", Items: []api.Item{{Kind: api.ItemAll}}, Limit: -1}
			if got, code := holdSelect(t, all, []api.Table{x}, there); code != api.OK || !alike(got, there) {
				t.Fatalf("%v, %d, not %v", got, code, there)
			}
		}
	}
}

// sorted are rows in an order that is theirs alone.
func sorted(l rows) rows {
	l = slices.Clone(l)
	slices.SortFunc(l, func(a, b []api.Value) int { return slices.CompareFunc(a, b, orderOf) })
	return l
}

func TestLimitLeavesABeginning(t *testing.T) { // P16.5
	m := newMaker(4)
	held := 0
	for range 2500 {
		scope, all := m.scope()
		s := m.selection(scope)
		s.Limit = -1
		whole, code := holdSelect(t, s, scope, all...)
		if code != api.OK {
			continue
		}
		for _, limit := range []int{0, 1, m.Intn(10), len(whole) - 1, len(whole), len(whole) + 1, api.MaxInt} {
			if s.Limit = limit; limit < 0 {
				continue
			}
			if got, code := holdSelect(t, s, scope, all...); code != api.OK || !alike(got, whole[:min(limit, len(whole))]) {
				t.Fatalf("%s: %v, %d, not the beginning of %v", brief(s), got, code, whole)
			}
		}
		held += min(1, len(whole))
	}
	if held < 800 {
		t.Errorf("but %d have rows", held)
	}
}

func TestOrderChangesNoMoreThanTheOrder(t *testing.T) { // P16.5
	m := newMaker(5)
	held := 0
	for range 10000 {
		scope, all := m.scope()
		s := m.selection(scope)
		s.Limit = -1
		if len(s.Order) == 0 {
			continue
		}
		none := s
		none.Order, none.Desc = nil, false
		got, code := holdSelect(t, s, scope, all...)
		want, other := holdSelect(t, none, scope, all...)
		if code != other || !alike(sorted(got), sorted(want)) {
			t.Fatalf("%s: %v, %d, not those of %v, %d", brief(s), got, code, want, other)
		}
		s.Desc = !s.Desc
		if turned, code := holdSelect(t, s, scope, all...); code != other || !alike(sorted(turned), sorted(want)) {
			t.Fatalf("%s: %v, %d, not those of %v, %d", brief(s), turned, code, want, other)
		}
		held += min(1, len(got))
	}
	if held < 1500 {
		t.Errorf("but %d have rows", held)
	}
}

func TestWhereItsNotAndItsNullLeaveAll(t *testing.T) { // P16.5
	m := newMaker(6)
	held, parts := 0, [3]int{}
	for range 10000 {
		scope, all := m.scope()
		s := m.selection(scope)
		if isGrouped(s) || len(s.Where) == 0 {
			continue
		}
		s.Limit = -1
		e := s.Where[0]
		var left rows
		codes := map[api.Errno]bool{}
		for i, part := range []api.Expr{e, of(api.ExprNot, e), of(api.ExprNull, e)} {
			s.Where = where(part)
			got, code := holdSelect(t, s, scope, all...)
			left = append(left, got...)
			codes[code] = true
			parts[i] += min(1, len(got))
		}
		s.Where = nil
		whole, code := holdSelect(t, s, scope, all...)
		if code == api.OK && len(codes) == 1 && codes[api.OK] {
			held++
			if !alike(sorted(left), sorted(whole)) {
				t.Fatalf("%s: %v, not %v", brief(s), left, whole)
			}
		}
	}
	if held < 1500 || slices.Min(parts[:]) < 500 {
		t.Errorf("but %d, of which %v have rows", held, parts)
	}
}
