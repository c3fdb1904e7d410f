package exec_test

import (
	"slices"
	"strings"
	"testing"

	"vestry/api"
	"vestry/exec"
	"vestry/parse"
)

// wildValue may be one that is not right.
func (m maker) wildValue() api.Value {
	return pick(m, null, num(m.Intn(5)-2), num(api.MinInt), text("a"), text(strings.Repeat("z", 41)), api.Value{Kind: m.Intn(5) - 1, Num: m.Intn(3), Text: pick(m, "", "b")})
}

// wildExpr may be one that is not right.
func (m maker) wildExpr(deep int) api.Expr {
	e := api.Expr{Kind: m.Intn(8), Op: pick(m, 0, 1, 2, 3, 9, 12, 14), Table: pick(m, "", "", "t", "u", "T"), Name: pick(m, "", "a", "b", "c", "A")}
	if m.rare(3) {
		return pick(m, name(pick(m, "a", "b", "c")), valued(m.wildValue()), op(m.Intn(15), name("a"), valued(m.wildValue())))
	}
	for range m.Intn(4) * min(1, deep) {
		e.Args = append(e.Args, m.wildExpr(deep-1))
	}
	return e
}

func (m maker) wildExprs() []api.Expr {
	var l []api.Expr
	for range pick(m, 0, 0, 1, 1, 1, 2, 3) {
		l = append(l, m.wildExpr(m.Intn(3)))
	}
	return l
}

// wildTable may be one that may not be.
func (m maker) wildTable() api.Table {
	x := api.Table{Name: pick(m, "", "t", "u"), Primary: m.Intn(5) - 1}
	for range m.Intn(4) {
		x.Columns = append(x.Columns, api.Column{Name: pick(m, "", "a", "b", "c"), Kind: pick(m, 0, 1, 1, 2, 2, 3), NotNull: m.rare(3), Unique: m.rare(3)})
	}
	return x
}

func (m maker) wildRows(width int) rows {
	var l rows
	for range m.Intn(5) {
		var row []api.Value
		for range width + (m.Intn(9)-4)/4 {
			row = append(row, m.wildValue())
		}
		l = append(l, row)
	}
	return l
}

// wild is a statement of which anything may be wrong.
func (m maker) wild(width int) api.Statement {
	s := api.Statement{Kind: pick(m, -1, 0, 1, 2, 3, 4, 5, 6, 6, 6, 7), Table: pick(m, "", "t", "t", "u"), Primary: pick(m, "", "a"), Join: pick(m, "", "", "t", "u"), Desc: m.rare(2), Limit: m.Intn(6) - 3}
	if m.rare(9) {
		s.Limit = pick(m, api.MaxInt, api.MinInt)
	}
	s.On, s.Where, s.Group, s.Order = m.wildExprs(), m.wildExprs(), m.wildExprs(), m.wildExprs()
	for range m.Intn(4) {
		s.Items = append(s.Items, api.Item{Kind: m.Intn(10) - 1, Args: m.wildExprs()})
		s.Sets = append(s.Sets, api.Set{Name: pick(m, "", "a", "b", "c", "d"), Expr: m.wildExpr(2)})
	}
	if m.rare(2) {
		s.Rows = m.wildRows(width)
	}
	return s
}

func TestWildArguments(t *testing.T) { // P16.1, P16.2, W1, W3
	m := newMaker(7)
	for range 40000 {
		var scope []api.Table
		var all []rows
		for range 1 + m.Intn(2) {
			x, l := m.wildTable(), rows(nil)
			if m.rare(2) {
				x = m.table("t")
				l = m.rows(x, 4)
			}
			scope = append(scope, x)
			all = append(all, pick(m, m.wildRows(len(x.Columns)), l))
		}
		s := m.wild(len(scope[0].Columns))
		holdSelect(t, s, scope[:m.Intn(len(scope)+1)], all[:m.Intn(len(all)+1)]...)
		holdSelect(t, s, scope, all...)
		holdChange(t, s, scope[0], all[0])
	}
}

// spoilt is a statement of which one part is that of a wild one.
func (m maker) spoilt(s api.Statement, width int) api.Statement {
	w := m.wild(width)
	switch m.Intn(12) {
	case 0:
		s.On = w.On
	case 1:
		s.Where = w.Where
	case 2:
		s.Group = w.Group
	case 3:
		s.Order, s.Desc = w.Order, w.Desc
	case 4:
		s.Limit = w.Limit
	case 5:
		s.Rows = w.Rows
	case 6:
		s.Sets = w.Sets
	case 7:
		s.Items = append(slices.Clone(s.Items), w.Items...)
	case 8:
		s.Items = w.Items
	case 9:
		s.Table, s.Join = w.Table, w.Join
	case 10:
		s.Kind = w.Kind
	case 11:
		s.Items = slices.Clone(s.Items)
		for i := range s.Items {
			s.Items[i].Args = m.wildExprs()
		}
	}
	return s
}

func TestSpoiltStatements(t *testing.T) { // P16.1, P16.2, W1, W3
	m := newMaker(8)
	for range 8000 {
		scope, all := m.scope()
		holdSelect(t, m.spoilt(m.selection(scope), len(scope[0].Columns)), scope, all...)
		holdChange(t, m.spoilt(m.change(scope[0]), len(scope[0].Columns)), scope[0], all[0])
		// Rows of another table, of a table that is asked for.
		x := m.table("t")
		holdSelect(t, m.selection(scope), scope, append(all[1:], m.rows(x, 5))...)
		holdChange(t, m.change(scope[0]), scope[0], m.rows(x, 5))
	}
}

func TestNamesThatMeanNothing(t *testing.T) { // W3
	// What check refuses is not done in part.
	w := examples(t)
	for source, want := range map[string]api.Errno{
		"SELECT zz FROM t":                              api.ErrColumn,
		"SELECT id FROM t WHERE n = 5 AND zz":           api.ErrColumn,
		"SELECT n FROM t JOIN u ON id = 1":              api.ErrDouble,
		"SELECT COUNT(*) FROM t GROUP BY u.n":           api.ErrColumn,
		"SELECT n FROM t ORDER BY zz":                   api.ErrColumn,
		"SELECT s + 1 FROM t":                           api.ErrType,
		"UPDATE t SET n = 1, n = zz":                    api.ErrColumn,
		"UPDATE t SET zz = 1":                           api.ErrColumn,
		"UPDATE t SET n = 1 WHERE NOT s":                api.ErrType,
		"DELETE FROM t WHERE id = 1 OR 'a' + 1 IS NULL": api.ErrType,
	} {
		s := statement(t, source)
		code := api.OK
		if s.Kind == api.StSelect {
			_, code = holdSelect(t, s, w.tables[:1+min(1, len(s.Join))], w.rows[:1+min(1, len(s.Join))]...)
		} else {
			_, _, code = holdChange(t, s, w.tables[0], w.rows[0])
		}
		if code != want {
			t.Errorf("%s: %d, not %d", source, code, want)
		}
	}
}

func TestMoreRowsThanATableHas(t *testing.T) { // W1
	x := tabled(t, "t", "id INT, PRIMARY KEY (id)")
	u := tabled(t, "u", "k INT, PRIMARY KEY (k)")
	for _, source := range []string{"SELECT id FROM t WHERE id > 0 ORDER BY id DESC", "SELECT id, COUNT(*) FROM t GROUP BY id", "SELECT SUM(id) FROM t"} {
		exec.Select(statement(t, source), []api.Table{x}, bare(20000))
	}
	exec.Select(statement(t, "SELECT id FROM t JOIN u ON id = k"), []api.Table{x, u}, bare(600), bare(600))
	for _, source := range []string{"INSERT INTO t VALUES (0)", "UPDATE t SET id = -id", "DELETE FROM t WHERE id > 100"} {
		exec.Change(statement(t, source), x, bare(3000))
	}
}

func TestEverySmallInsert(t *testing.T) { // P16.2, P16.4
	x := tabled(t, "t", "a INT, b INT UNIQUE, c INT NOT NULL, PRIMARY KEY (a)")
	few := []api.Value{null, num(0), num(1)}
	var all rows
	for _, a := range few {
		for _, b := range few {
			for _, c := range few[:2] {
				all = append(all, []api.Value{a, b, c})
			}
		}
	}
	for _, there := range []rows{nil, {{num(0), null, num(0)}}, {{num(1), num(1), num(0)}}, {{num(0), num(1), num(1)}, {num(1), num(0), num(1)}}, {{num(0), null, num(1)}, {num(1), null, num(0)}}} {
		for _, first := range all {
			for _, second := range all {
				holdChange(t, api.Statement{Kind: api.StInsert, Table: "t", Rows: rows{first, second}, Limit: -1}, x, there)
			}
			holdChange(t, api.Statement{Kind: api.StInsert, Table: "t", Rows: rows{first}, Limit: -1}, x, there)
		}
	}
}

func TestEverySmallUpdateAndDelete(t *testing.T) { // P16.2, P16.4
	x := tabled(t, "t", "a INT, b INT UNIQUE, c INT NOT NULL, PRIMARY KEY (a)")
	tables := []rows{nil, {{num(0), null, num(0)}}, {{num(0), num(1), num(1)}, {num(1), num(0), num(0)}}, {{num(-1), null, num(1)}, {num(0), num(2), num(-1)}, {num(1), null, num(0)}}}
	parts := []string{"NULL", "0", "1", "a", "b", "c", "a + 1", "- a", "1 - c", "a * b", "1 / c", "1 / a", "b / b", "a IS NULL", "b IS NULL"}
	for _, there := range tables {
		for _, condition := range append(parts, "") {
			if condition != "" {
				condition = " WHERE " + condition
			}
			holdChange(t, statement(t, "DELETE FROM t"+condition), x, there)
			for _, one := range parts {
				for _, set := range []string{"a = " + one, "b = " + one, "c = " + one, "a = c, c = " + one, "b = " + one + ", a = b", "c = " + one + ", b = " + one} {
					holdChange(t, statement(t, "UPDATE t SET "+set+condition), x, there)
				}
			}
		}
	}
}

func TestEverySmallSelect(t *testing.T) { // P16.1
	scope := []api.Table{tabled(t, "t", "a INT, b INT, PRIMARY KEY (a)"), tabled(t, "u", "c INT, d TEXT, PRIMARY KEY (c)")}
	tables := [][]rows{
		{nil, nil},
		{{{num(0), num(1)}}, {{num(0), text("a")}}},
		{{{num(0), num(1)}, {num(1), null}, {num(2), num(1)}}, {{num(0), text("b")}, {num(2), null}, {num(3), text("a")}}},
		{{{num(1), num(api.MaxInt)}, {num(2), num(2)}, {num(3), num(-2)}}, {{num(1), text("b")}, {num(2), text("b")}}},
	}
	items := []string{"*", "a", "b / a", "COUNT(*)", "a, SUM(b)", "MIN(b), COUNT(b)", "SUM(b), SUM(1 / a)", "MAX(-b), a"}
	joins := []string{"", " JOIN u ON 1", " JOIN u ON a = c", " JOIN u ON b / c", " JOIN u ON d > 'a'"}
	conditions := []string{"", " WHERE a", " WHERE b IS NULL", " WHERE b > 1 / a", " WHERE a + b > 1"}
	orders := []string{"", " ORDER BY a", " ORDER BY b DESC", " GROUP BY a", " GROUP BY a ORDER BY a DESC", " GROUP BY b ORDER BY b", " LIMIT 1", " ORDER BY a DESC LIMIT 2"}
	taken := 0
	for _, all := range tables {
		for _, item := range items {
			for _, join := range joins {
				for _, condition := range conditions {
					for _, order := range orders {
						s := statement(t, "SELECT "+item+" FROM t"+join+condition+order)
						n := 1 + min(1, len(join))
						if promised(s, scope[:n], all[:n]...) {
							taken++
						}
						holdSelect(t, s, scope[:n], all[:n]...)
					}
				}
			}
		}
	}
	if taken < 3000 {
		t.Errorf("but %d were taken", taken)
	}
}

// deepExpr is one with so many parts within one another, around another one; it
// is as true as that.
func deepExpr(e api.Expr, deep int) api.Expr {
	for i := range deep {
		switch i % 3 {
		case 0:
			e = of(api.ExprNot, of(api.ExprNot, e))
		case 1:
			e = op(api.OpAnd, e, valued(num(1)))
		case 2:
			e = op(api.OpOr, valued(num(0)), e)
		}
	}
	return e
}

func TestDeepExprs(t *testing.T) { // W1, Bound
	w := examples(t)
	for _, deep := range []int{1, api.MaxNest, api.MaxNest + 1, 1000, 49000} {
		for i, source := range []string{"SELECT id FROM t WHERE n = 5", "SELECT id, id > 2 FROM t", "SELECT COUNT(n > 0) FROM t JOIN u ON n = 5", "SELECT n, MIN(id = 1) FROM t GROUP BY n", "UPDATE t SET n = s > '' WHERE s > 'a'", "DELETE FROM t WHERE n = 5", "UPDATE t SET n = 1 / (id - 3)"} {
			if deep > 1000 && i%2 > 0 {
				continue // enough of those that take long
			}
			s := statement(t, source)
			for i := range s.Items {
				for k, e := range s.Items[i].Args {
					if e.Kind == api.ExprOp {
						s.Items[i].Args[k] = deepExpr(e, deep)
					}
				}
			}
			for i := range s.Where {
				s.Where[i] = deepExpr(s.Where[i], deep)
			}
			for i := range s.Sets {
				s.Sets[i].Expr = deepExpr(s.Sets[i].Expr, deep)
			}
			for i := range s.On {
				s.On[i] = deepExpr(s.On[i], deep)
			}
			scope, all := w.scope(t, s)
			if s.Kind == api.StSelect {
				holdSelect(t, s, scope, all...)
			} else {
				holdChange(t, s, scope[0], all[0])
			}
		}
	}
}

// someRows are rows of a table of the INTs id, n and a TEXT s, made of numbers and texts.
func someRows(ids, ns []byte, s string) rows {
	var l rows
	for i, id := range ids[:min(len(ids), api.MaxTable)] {
		row := []api.Value{num(int(int8(id))), null, null}
		if i < len(ns) && ns[i] != 0 {
			row[1] = num(int(int8(ns[i])))
			if ns[i] == 127 {
				row[1] = num(api.MaxInt)
			}
		}
		if i < len(s) && s[i] != ' ' {
			row[2] = text(s[i:min(i+2, len(s))])
		}
		l = append(l, row)
	}
	l = sorted(l)
	return slices.CompactFunc(l, func(a, b []api.Value) bool { return a[0] == b[0] })
}

func FuzzSources(f *testing.F) { // P16.1, P16.2, P16.4
	for _, s := range []string{
		"SELECT n, COUNT(*) FROM t GROUP BY n", "SELECT SUM(n), MAX(s) FROM t WHERE id > 1", "SELECT id FROM t ORDER BY n DESC LIMIT 2", "INSERT INTO t VALUES (1, 1, 'c')",
		"SELECT t.id / u.n, s FROM t JOIN u ON t.id = k WHERE u.n < 5 ORDER BY s DESC", "SELECT s, SUM(t.n), MIN(k) FROM t JOIN u ON 1 GROUP BY s ORDER BY s DESC LIMIT 3",
		"UPDATE t SET id = id + 1, n = 9223372036854775807 / n WHERE s IS NOT NULL", "DELETE FROM t WHERE id % 2 = 0 OR s > 'b'", "SELECT *, *, 7 FROM u", "UPDATE u SET w = 'a'; DELETE FROM u",
	} {
		f.Add(s, []byte{1, 2, 3, 250}, []byte{5, 0, 127, 127}, "ab c")
	}
	f.Fuzz(func(t *testing.T, source string, ids, ns []byte, text string) {
		l, fault := parse.Script(source)
		if fault.Code != api.OK {
			return
		}
		x, u := tabled(t, "t", "id INT, n INT, s TEXT, PRIMARY KEY (id)"), tabled(t, "u", "k INT, n INT NOT NULL, w TEXT UNIQUE, PRIMARY KEY (k)")
		of := map[string]rows{"t": someRows(ids, ns, text), "u": {{num(-1), num(3), null}}}
		for _, row := range someRows(ns, ids, text) {
			if nulls, doubles := faultsOf(u, row, of["u"]); !nulls && !doubles {
				of["u"] = append(of["u"], row)
			}
		}
		of["u"] = sorted(of["u"])
		for _, s := range l {
			scope := []api.Table{x, u}
			if s.Table == "u" {
				scope = []api.Table{u, x}
			}
			if s.Join == "" {
				scope = scope[:1]
			}
			var all []rows
			for _, one := range scope {
				all = append(all, of[one.Name])
			}
			holdSelect(t, s, scope, all...)
			if after, _, code := holdChange(t, s, scope[0], all[0]); code == api.OK && areRows(scope[0], after) {
				of[scope[0].Name] = after
			}
		}
	})
}
