package check_test

import (
	"reflect"
	"slices"
	"strings"
	"testing"

	"vestry/api"
	"vestry/check"
	"vestry/parse"
)

func wantBound(t *testing.T, scope []api.Table, e, want api.Expr, kind int) {
	t.Helper()
	if got, k, code := check.Bind(scope, e); code != api.OK || k != kind || !reflect.DeepEqual(got, want) {
		t.Errorf("Bind(%+v): %+v, %d, %d, not %+v, %d", e, got, k, code, want, kind)
	}
	holdBind(t, scope, e)
}

func wantBindErr(t *testing.T, want api.Errno, scope []api.Table, e api.Expr) {
	t.Helper()
	if got, kind, code := check.Bind(scope, e); code != want || kind != 0 || !reflect.DeepEqual(got, api.Expr{}) {
		t.Errorf("Bind(%+v): %+v, %d, %d, not %d", e, got, kind, code, want)
	}
	holdBind(t, scope, e)
}

func TestExamplesOfBind(t *testing.T) { // P12.1
	scope := tablesOf(t, exampleScope)
	wantBound(t, scope, expr(t, "u.k = s"), op(api.OpEq, numbered(4), numbered(2)), api.KindNum)
	wantBound(t, scope, expr(t, "k"), numbered(4), api.KindText)
	wantBound(t, scope, expr(t, "NOT NULL"), not(null()), api.KindNum)
	wantBound(t, scope, expr(t, "n IS NULL"), isnt(numbered(1)), api.KindNum)
	wantBindErr(t, api.ErrDouble, scope, expr(t, "id"))
	wantBindErr(t, api.ErrType, scope, expr(t, "n + s"))
	wantBindErr(t, api.ErrColumn, scope, expr(t, "zz"))
	wantBindErr(t, api.ErrColumn, scope, expr(t, "t.k"))
}

func TestEachColumnOfAScope(t *testing.T) { // P12.1
	var scope []api.Table
	number := 0
	for _, size := range []int{3, 0, 1, 8, 2} {
		x := api.Table{Name: "t" + string(rune('0'+len(scope)))}
		for i := range size {
			c := api.Column{Name: "c" + string(rune('0'+len(scope))) + string(rune('0'+i)), Kind: 1 + i%2}
			x.Columns = append(x.Columns, c)
		}
		scope = append(scope, x)
	}
	for _, x := range scope {
		for _, c := range x.Columns {
			wantBound(t, scope, name(c.Name), numbered(number), c.Kind)
			wantBound(t, scope, of(x.Name, c.Name), numbered(number), c.Kind)
			for _, other := range scope {
				if other.Name != x.Name {
					wantBindErr(t, api.ErrColumn, scope, of(other.Name, c.Name))
				}
			}
			number++
		}
		wantBindErr(t, api.ErrColumn, scope, name(x.Name))
	}
	if number != 14 {
		t.Errorf("%d columns", number)
	}
	wantBindErr(t, api.ErrColumn, scope, of("u", "c00"))
	wantBindErr(t, api.ErrColumn, scope, of("c00", "t0"))
	wantBindErr(t, api.ErrColumn, nil, name("c00"))
	wantBindErr(t, api.ErrColumn, nil, of("t0", "c00"))
	wantBindErr(t, api.ErrColumn, []api.Table{{}}, name("c00"))
}

func TestNamesThatAreThereTwice(t *testing.T) { // P12.1
	// In one table the first one counts.
	scope := []api.Table{bare("t", numColumn("a"), textColumn("b"), numColumn("b"), textColumn("a")), bare("u", textColumn("c"), numColumn("c"))}
	wantBound(t, scope, name("a"), numbered(0), api.KindNum)
	wantBound(t, scope, of("t", "b"), numbered(1), api.KindText)
	wantBound(t, scope, name("c"), numbered(4), api.KindText)
	wantBound(t, scope, of("u", "c"), numbered(4), api.KindText)
	// Of tables of one name only the first counts, for a name with its table.
	scope = []api.Table{bare("u", numColumn("z")), bare("t", numColumn("a")), bare("t", textColumn("a"), textColumn("b")), bare("u", numColumn("y"))}
	wantBound(t, scope, of("t", "a"), numbered(1), api.KindNum)
	wantBindErr(t, api.ErrColumn, scope, of("t", "b"))
	wantBindErr(t, api.ErrColumn, scope, of("u", "y"))
	wantBound(t, scope, of("u", "z"), numbered(0), api.KindNum)
	wantBound(t, scope, name("b"), numbered(3), api.KindText)
	wantBound(t, scope, name("y"), numbered(4), api.KindNum)
	// For a name alone they are more than one, also if they are the same.
	wantBindErr(t, api.ErrDouble, scope, name("a"))
	one := bare("t", numColumn("a"))
	wantBindErr(t, api.ErrDouble, []api.Table{one, one}, name("a"))
	wantBound(t, []api.Table{one, one}, of("t", "a"), numbered(0), api.KindNum)
	wantBindErr(t, api.ErrDouble, []api.Table{one, {}, bare("u", textColumn("b"), textColumn("a"))}, name("a"))
	wantBindErr(t, api.ErrDouble, []api.Table{one, one, one}, name("a"))
	// A table of no name is none that is asked for; its columns are there.
	wantBound(t, []api.Table{bare("", numColumn("x")), bare("", numColumn("a"))}, name("a"), numbered(1), api.KindNum)
	wantBindErr(t, api.ErrDouble, []api.Table{bare("", numColumn("a")), bare("", numColumn("a"))}, name("a"))
	wantBindErr(t, api.ErrColumn, []api.Table{bare("", numColumn("a")), bare("t", numColumn("b"))}, of("t", "a"))
}

// ofKinds are expressions of each kind, in a scope of n and s.
func ofKinds() []api.Expr { return []api.Expr{null(), num(5), text("x"), name("n"), of("t", "s")} }

func kindsOf() []int {
	return []int{api.KindNull, api.KindNum, api.KindText, api.KindNum, api.KindText}
}

func TestKinds(t *testing.T) { // P12.1
	scope := []api.Table{bare("t", numColumn("n"), textColumn("s"))}
	bound := []api.Expr{null(), num(5), text("x"), numbered(0), numbered(1)}
	for i, a := range ofKinds() {
		k := kindsOf()[i]
		wantBound(t, scope, a, bound[i], k)
		wantBound(t, scope, isnt(a), isnt(bound[i]), api.KindNum)
		if k == api.KindText {
			wantBindErr(t, api.ErrType, scope, not(a))
			wantBindErr(t, api.ErrType, scope, neg(a))
		} else {
			wantBound(t, scope, not(a), not(bound[i]), api.KindNum)
			wantBound(t, scope, neg(a), neg(bound[i]), api.KindNum)
		}
		for j, b := range ofKinds() {
			other := kindsOf()[j]
			for o := api.OpOr; o <= api.OpMod; o++ {
				may := k != api.KindText && other != api.KindText
				if o >= api.OpEq && o <= api.OpGe {
					may = k == other || k == api.KindNull || other == api.KindNull
				}
				if may {
					wantBound(t, scope, op(o, a, b), op(o, bound[i], bound[j]), api.KindNum)
				} else {
					wantBindErr(t, api.ErrType, scope, op(o, a, b))
				}
			}
		}
	}
}

func TestWhatComesOfPartsIsANumber(t *testing.T) { // P12.1
	// Also of nulls alone: so it is held against no text.
	for _, e := range []api.Expr{op(api.OpAdd, null(), null()), op(api.OpAnd, null(), null()), op(api.OpEq, null(), null()), not(null()), neg(null()), isnt(null()), op(api.OpLt, text("a"), text("b")), isnt(text("a"))} {
		wantBound(t, nil, e, e, api.KindNum)
		wantBound(t, nil, op(api.OpGe, e, num(1)), op(api.OpGe, e, num(1)), api.KindNum)
		wantBound(t, nil, not(e), not(e), api.KindNum)
		wantBindErr(t, api.ErrType, nil, op(api.OpEq, e, text("a")))
		wantBindErr(t, api.ErrType, nil, op(api.OpNe, text("a"), e))
	}
}

func TestTheFirstPartThatIsWrong(t *testing.T) { // P12.1, W4
	scope := tablesOf(t, exampleScope)
	for source, want := range map[string]api.Errno{
		"zz + id":                 api.ErrColumn,
		"id + zz":                 api.ErrDouble,
		"s + zz":                  api.ErrColumn,
		"- s + zz":                api.ErrType,
		"zz + - s":                api.ErrColumn,
		"NOT s = 1 OR id":         api.ErrType,
		"id OR NOT s = 1":         api.ErrDouble,
		"(n + s) * (zz + 1)":      api.ErrType,
		"(n + t.id) * (zz + s)":   api.ErrColumn,
		"n = (s = id)":            api.ErrDouble,
		"n = (s = 1) AND id":      api.ErrType,
		"s + (1 + 'a') + zz":      api.ErrType,
		"s + 1 + zz":              api.ErrType,
		"s * (zz IS NULL)":        api.ErrColumn,
		"zz IS NULL":              api.ErrColumn,
		"id IS NOT NULL":          api.ErrDouble,
		"- 'a' IS NULL":           api.ErrType,
		"s IS NULL AND k IS NULL": api.OK,
	} {
		e := expr(t, source)
		if want != api.OK {
			wantBindErr(t, want, scope, e)
		} else if code := holdBind(t, scope, e); code != want {
			t.Errorf("%q: %d", source, code)
		}
	}
}

// wrongExprs are not right.
func wrongExprs() []api.Expr {
	one := num(1)
	l := []api.Expr{
		{}, {Kind: 7}, {Kind: -1}, {Kind: api.MinInt}, {Kind: api.MaxInt}, {Kind: 1 << 32},
		num(api.MinInt), text(strings.Repeat("x", 41)), valued(api.Value{Kind: 3}), valued(api.Value{Kind: -1}), valued(api.Value{Num: 1}), valued(api.Value{Text: "a"}),
		valued(api.Value{Kind: api.KindNum, Text: "a"}), valued(api.Value{Kind: api.KindText, Num: 1}),
		name(""), name("A"), name("a b"), name("5"), name("SELECT"), name(strings.Repeat("a", 17)), of("T", "n"), of("t ", "n"), of("t", ""), of(strings.Repeat("t", 17), "n"),
		numbered(0), numbered(1),
		op(0, one, one), op(14, one, one), op(-1, one, one), op(api.MaxInt, one, one),
		{Kind: api.ExprOp, Op: 1}, {Kind: api.ExprOp, Op: 1, Args: []api.Expr{one}}, {Kind: api.ExprOp, Op: 1, Args: []api.Expr{one, one, one}},
	}
	for _, kind := range []int{api.ExprNot, api.ExprNeg, api.ExprNull} {
		l = append(l, api.Expr{Kind: kind}, api.Expr{Kind: kind, Args: []api.Expr{one, one}}, api.Expr{Kind: kind, Op: 1, Args: []api.Expr{one}})
	}
	// What a kind does not name is zero.
	for _, e := range []api.Expr{one, name("n"), op(api.OpAdd, one, one), not(one), neg(one), isnt(one)} {
		for _, more := range []api.Expr{{Op: api.OpAdd}, {Table: "t"}, {Name: "n"}, {Value: one.Value}, {Args: []api.Expr{one}}} {
			x := e
			x.Op, x.Table, x.Name = e.Op+more.Op, e.Table+more.Table, e.Name+more.Name
			x.Args = append(slices.Clone(e.Args), more.Args...)
			if more.Value != (api.Value{}) {
				x.Value = more.Value
			}
			if !rightExpr(x) {
				l = append(l, x)
			}
		}
	}
	return l
}

func TestBindOfWhatIsNotRight(t *testing.T) { // P12.1
	scope := tablesOf(t, exampleScope)
	for _, e := range wrongExprs() {
		wantBindErr(t, api.ErrForm, scope, e)
		wantBindErr(t, api.ErrForm, nil, e)
		// It is told ahead of all others, wherever it stands.
		for _, other := range []api.Expr{name("zz"), name("id"), op(api.OpAdd, name("s"), num(1)), num(1)} {
			wantBindErr(t, api.ErrForm, scope, op(api.OpAdd, other, e))
			wantBindErr(t, api.ErrForm, scope, op(api.OpAdd, e, other))
			wantBindErr(t, api.ErrForm, scope, not(op(api.OpEq, other, isnt(e))))
		}
	}
}

func TestBindOfWhatIsAtALimit(t *testing.T) { // P12.1
	long := strings.Repeat("z", api.MaxName)
	scope := []api.Table{bare(long, numColumn(long))}
	wantBound(t, scope, of(long, long), numbered(0), api.KindNum)
	wantBindErr(t, api.ErrColumn, scope, of(long[1:], long))
	wantBindErr(t, api.ErrColumn, scope, name(long[1:]))
	for _, e := range []api.Expr{num(api.MaxInt), num(api.MinInt + 1), num(0), text(""), text(strings.Repeat("'", 40)), text("\x00\xff")} {
		wantBound(t, nil, e, e, e.Value.Kind)
	}
}

func TestBindOfWhatIsTooDeepOrTooLongToBeWritten(t *testing.T) { // P12.1
	scope := []api.Table{bare("t", numColumn("n"), textColumn("s"))}
	for _, deep := range []int{api.MaxNest, api.MaxNest + 1, 100, 1000, 1<<16 - 1} {
		e, want, wrong := name("n"), numbered(0), name("s")
		for i := range deep {
			switch i % 4 {
			case 0:
				e, want, wrong = not(e), not(want), not(wrong)
			case 1:
				e, want, wrong = neg(e), neg(want), neg(wrong)
			case 2:
				e, want, wrong = op(api.OpAdd, num(i), e), op(api.OpAdd, num(i), want), op(api.OpAdd, num(i), wrong)
			case 3:
				e, want, wrong = op(api.OpEq, e, null()), op(api.OpEq, want, null()), op(api.OpEq, wrong, null())
			}
		}
		if got, kind, code := check.Bind(scope, e); code != api.OK || kind != api.KindNum || !like(got, want) {
			t.Errorf("%d deep: kind %d, %d", deep, kind, code)
		}
		if got, kind, code := check.Bind(scope, wrong); code != api.ErrType || kind != 0 || !like(got, api.Expr{}) {
			t.Errorf("%d deep, wrong within: kind %d, %d", deep, kind, code)
		}
	}
	wide := text(strings.Repeat("x", 40))
	for i := range 100 {
		wide = op(api.OpEq, op(api.OpEq, text(strings.Repeat("y", 40)), text("z")), op(api.OpEq, num(i), isnt(wide)))
	}
	wantBound(t, scope, wide, wide, api.KindNum)
}

func TestBindOfRandomExprs(t *testing.T) { // P12.1
	m := newMaker(1)
	seen := map[api.Errno]int{}
	for range 60000 {
		seen[holdBind(t, m.anyTables(), m.expr(m.Intn(5)))]++
	}
	for _, e := range []api.Errno{api.OK, api.ErrType, api.ErrColumn, api.ErrDouble} {
		if seen[e] < 1000 {
			t.Errorf("%d: but %d times", e, seen[e])
		}
	}
}

func TestEverySmallExpr(t *testing.T) { // P12.1
	leaves := []api.Expr{null(), num(1), text(""), name("n"), of("t", "s"), name("z"), name("d"), {Kind: 7}}
	scope := []api.Table{bare("t", textColumn("s"), numColumn("d")), bare("u", numColumn("n"), numColumn("d"))}
	first := slices.Clone(leaves)
	for _, a := range leaves {
		first = append(first, not(a), neg(a), isnt(a))
		for _, b := range leaves {
			for o := range 15 {
				first = append(first, op(o, a, b))
			}
		}
	}
	for _, a := range first {
		holdBind(t, scope, a)
		holdBind(t, scope, not(a))
		holdBind(t, scope, neg(a))
		holdBind(t, scope, isnt(a))
		for _, b := range leaves {
			for _, o := range []int{api.OpOr, api.OpEq, api.OpGe, api.OpMod} {
				holdBind(t, scope, op(o, a, b))
				holdBind(t, scope, op(o, b, a))
			}
		}
	}
}

func TestOtherKindsOfColumns(t *testing.T) { // P12.1, W1: the call ends
	m := newMaker(2)
	for range 5000 {
		scope := append(m.anyTables(), m.anyTable())
		for _, x := range scope {
			for i := range x.Columns {
				x.Columns[i].Kind = pick(m, api.MinInt, -1, 0, 1, 2, 3, 1<<32, api.MaxInt)
			}
		}
		check.Bind(scope, m.expr(m.Intn(5)))
	}
}

// tabled is an expression, each name of which has a table's name.
func (m maker) tabled(e api.Expr) api.Expr {
	if e.Kind == api.ExprColumn && e.Table == "" {
		e.Table = m.tableName()
	}
	e.Args = slices.Clone(e.Args)
	for i, arg := range e.Args {
		e.Args[i] = m.tabled(arg)
	}
	return e
}

func TestWhateverTablesStandBehind(t *testing.T) { // P12.4
	m := newMaker(3)
	bound := 0
	for range 40000 {
		scope, e := m.anyTables(), m.tabled(m.expr(m.Intn(4)))
		got, kind, code := check.Bind(scope, e)
		if code != api.OK {
			continue
		}
		bound++
		for range 3 {
			scope = append(scope, m.anyTable())
			if again, k, code := check.Bind(scope, e); code != api.OK || k != kind || !reflect.DeepEqual(again, got) {
				t.Fatalf("Bind(%+v, %+v): %+v, %d, %d, not %+v, %d", scope, e, again, k, code, got, kind)
			}
		}
	}
	if bound < 5000 {
		t.Errorf("but %d were bound", bound)
	}
	// A name without its table may become one of two.
	one := bare("t", numColumn("a"))
	wantBound(t, []api.Table{one}, name("a"), numbered(0), api.KindNum)
	wantBindErr(t, api.ErrDouble, []api.Table{one, bare("u", numColumn("a"))}, name("a"))
}

// valuesFor puts values in the place of columns.
func (m maker) valuesFor(e api.Expr) api.Expr {
	if e.Kind == api.ExprColumn {
		return valued(m.value())
	}
	for i, arg := range e.Args {
		e.Args[i] = m.valuesFor(arg)
	}
	return e
}

func TestWhatIsNothingButValues(t *testing.T) { // P12.5
	m := newMaker(4)
	bound := 0
	for range 20000 {
		e := m.valuesFor(m.expr(m.Intn(4)))
		got, _, code := check.Bind(m.anyTables(), e)
		if code == api.OK {
			bound++
			if !reflect.DeepEqual(got, e) {
				t.Fatalf("%+v is bound as %+v", e, got)
			}
		} else if code != api.ErrType {
			t.Fatalf("%+v: %d", e, code)
		}
		holdBind(t, nil, e)
	}
	if bound < 5000 {
		t.Errorf("but %d were bound", bound)
	}
}

func FuzzBind(f *testing.F) { // P12.1
	for _, s := range []string{"u.k = s", "id", "n + s", "k", "zz", "t.k", "NOT NULL", "n IS NULL", "- (5) % 'a' <= NULL AND NOT t.id OR u.id"} {
		f.Add(s)
	}
	f.Fuzz(func(t *testing.T, source string) {
		if e, fault := parse.One(source); fault.Code == api.OK {
			holdBind(t, tablesOf(t, exampleScope), e)
		}
	})
}
