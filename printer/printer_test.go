package printer_test

import (
	"reflect"
	"slices"
	"strconv"
	"strings"
	"testing"

	"vestry/api"
	"vestry/printer"
)

var null = api.Value{}

func num(n int) api.Value      { return api.Value{Kind: api.KindNum, Num: n} }
func text(s string) api.Value  { return api.Value{Kind: api.KindText, Text: s} }
func val(v api.Value) api.Expr { return api.Expr{Kind: api.ExprValue, Value: v} }
func n(i int) api.Expr         { return val(num(i)) }
func col(name string) api.Expr { return api.Expr{Kind: api.ExprColumn, Name: name} }
func colOf(table, name string) api.Expr {
	return api.Expr{Kind: api.ExprColumn, Table: table, Name: name}
}
func op(o int, a, b api.Expr) api.Expr     { return api.Expr{Kind: api.ExprOp, Op: o, Args: exprs(a, b)} }
func not(e api.Expr) api.Expr              { return api.Expr{Kind: api.ExprNot, Args: exprs(e)} }
func neg(e api.Expr) api.Expr              { return api.Expr{Kind: api.ExprNeg, Args: exprs(e)} }
func isNull(e api.Expr) api.Expr           { return api.Expr{Kind: api.ExprNull, Args: exprs(e)} }
func exprs(l ...api.Expr) []api.Expr       { return l }
func items(l ...api.Item) []api.Item       { return l }
func item(e api.Expr) api.Item             { return api.Item{Kind: api.ItemExpr, Args: exprs(e)} }
func itemOf(kind int, e api.Expr) api.Item { return api.Item{Kind: kind, Args: exprs(e)} }
func rows(l ...[]api.Value) [][]api.Value  { return l }
func row(l ...api.Value) []api.Value       { return l }

// times is a list of one thing.
func times[T any](n int, one T) []T { return slices.Repeat([]T{one}, n) }

// nested is e within n others, each made of the one in it.
func nested(n int, e api.Expr, make func(e api.Expr) api.Expr) api.Expr {
	for range n {
		e = make(e)
	}
	return e
}

var (
	a, b, c = col("a"), col("b"), col("c")
	all     = api.Item{Kind: api.ItemAll}
	drop    = api.Statement{Kind: api.StDrop, Table: "t", Limit: -1}
	create  = api.Statement{Kind: api.StCreate, Table: "t", Columns: []api.Column{{Name: "a", Kind: api.KindNum}}, Primary: "a", Limit: -1}
	insert  = api.Statement{Kind: api.StInsert, Table: "t", Rows: rows(row(num(1))), Limit: -1}
	update  = api.Statement{Kind: api.StUpdate, Table: "t", Sets: []api.Set{{Name: "a", Expr: n(1)}}, Limit: -1}
	remove  = api.Statement{Kind: api.StDelete, Table: "t", Limit: -1}
	selects = api.Statement{Kind: api.StSelect, Table: "t", Items: items(all), Limit: -1}
	states  = []api.Statement{create, drop, insert, update, remove, selects}
)

// with is a statement that was changed.
func with(s api.Statement, change func(s *api.Statement)) api.Statement {
	change(&s)
	return s
}

func wantExpr(t *testing.T, e api.Expr, want string) {
	t.Helper()
	if s, err := printer.Expr(e); s != want || err != api.OK {
		t.Errorf("Expr(%+v): %q, %d, not %q", e, s, err, want)
	}
}

func wantErr(t *testing.T, e api.Expr, want api.Errno) {
	t.Helper()
	if s, err := printer.Expr(e); s != "" || err != want {
		t.Errorf("Expr(%.200q): %.200q, %d, not %d", reflect.ValueOf(e), s, err, want)
	}
}

func wantScript(t *testing.T, want string, l ...api.Statement) {
	t.Helper()
	if s, err := printer.Script(l...); s != want || err != api.OK {
		t.Errorf("Script(%+v): %q, %d, not %q", l, s, err, want)
	}
}

func wantScriptErr(t *testing.T, want api.Errno, l ...api.Statement) {
	t.Helper()
	if s, err := printer.Script(l...); s != "" || err != want {
		t.Errorf("Script(%.200q): %.200q, %d, not %d", reflect.ValueOf(l), s, err, want)
	}
}

func TestExamples(t *testing.T) { // P10.1
	wantExpr(t, op(api.OpMul, op(api.OpAdd, n(1), n(2)), n(-3)), "( 1 + 2 ) * - 3")
	wantExpr(t, neg(n(5)), "- ( 5 )")
	wantExpr(t, neg(n(-5)), "- - 5")
	wantExpr(t, not(isNull(a)), "a IS NOT NULL")
	wantExpr(t, op(api.OpEq, a, op(api.OpEq, b, c)), "a = ( b = c )")
}

func TestOfFactors(t *testing.T) { // P10.1
	for _, one := range []struct {
		e    api.Expr
		want string
	}{
		{val(null), "NULL"}, {n(0), "0"}, {n(5), "5"}, {n(-5), "- 5"}, {n(-1), "- 1"},
		{n(api.MaxInt), "9223372036854775807"}, {n(-api.MaxInt), "- 9223372036854775807"}, {n(api.MinInt + 1), "- 9223372036854775807"},
		{val(text("")), "''"}, {val(text("it's")), "'it''s'"}, {val(text("''")), "''''''"}, {val(text("-- \n\x00\xff")), "'-- \n\x00\xff'"},
		{val(text("NULL")), "'NULL'"}, {val(text(strings.Repeat("'", 40))), strings.Repeat("'", 82)},
		{a, "a"}, {colOf("a", "b"), "a . b"}, {colOf("a", "a"), "a . a"}, {col("_"), "_"}, {col("null"), "null"},
		{colOf("abcdefghijklmnop", "a_23456789012345"), "abcdefghijklmnop . a_23456789012345"},
	} {
		wantExpr(t, one.e, one.want)
	}
}

func TestOfNegations(t *testing.T) { // P10.1
	for _, one := range []struct {
		e    api.Expr
		want string
	}{
		{a, "- a"}, {colOf("a", "b"), "- a . b"}, {val(null), "- NULL"}, {val(text("5")), "- '5'"}, {val(text("")), "- ''"},
		{n(0), "- ( 0 )"}, {n(1), "- ( 1 )"}, {n(-1), "- - 1"}, {n(api.MaxInt), "- ( 9223372036854775807 )"}, {n(-api.MaxInt), "- - 9223372036854775807"},
		{neg(a), "- - a"}, {neg(n(5)), "- - ( 5 )"}, {neg(n(-5)), "- - - 5"}, {neg(neg(n(0))), "- - - ( 0 )"},
		{not(a), "- ( NOT a )"}, {isNull(a), "- ( a IS NULL )"}, {not(isNull(a)), "- ( a IS NOT NULL )"},
	} {
		wantExpr(t, neg(one.e), one.want)
	}
	wantExpr(t, op(api.OpSub, a, n(5)), "a - 5")
	wantExpr(t, op(api.OpSub, a, n(-5)), "a - - 5")
	wantExpr(t, op(api.OpSub, n(-5), neg(n(5))), "- 5 - - ( 5 )")
	wantExpr(t, op(api.OpMul, neg(n(5)), n(5)), "- ( 5 ) * 5")
	wantExpr(t, op(api.OpMul, neg(a), neg(b)), "- a * - b")
	wantExpr(t, neg(op(api.OpMul, n(5), b)), "- ( 5 * b )")
	wantExpr(t, neg(op(api.OpMul, n(-5), b)), "- ( - 5 * b )")
}

func TestOfNotAndNull(t *testing.T) { // P10.1
	for _, one := range []struct {
		e    api.Expr
		want string
	}{
		{not(a), "NOT a"}, {not(not(a)), "NOT NOT a"}, {not(neg(a)), "NOT - a"}, {not(val(null)), "NOT NULL"}, {not(n(5)), "NOT 5"},
		{not(op(api.OpOr, a, b)), "NOT ( a OR b )"}, {not(op(api.OpAnd, a, b)), "NOT ( a AND b )"}, {not(op(api.OpEq, a, b)), "NOT a = b"},
		{not(op(api.OpAdd, a, b)), "NOT a + b"}, {not(op(api.OpMul, a, b)), "NOT a * b"},
		{isNull(a), "a IS NULL"}, {isNull(neg(a)), "- a IS NULL"}, {isNull(n(-5)), "- 5 IS NULL"}, {isNull(val(null)), "NULL IS NULL"},
		{isNull(op(api.OpAdd, a, b)), "a + b IS NULL"}, {isNull(op(api.OpMul, a, b)), "a * b IS NULL"}, {isNull(op(api.OpLt, a, b)), "( a < b ) IS NULL"},
		{isNull(op(api.OpOr, a, b)), "( a OR b ) IS NULL"}, {isNull(op(api.OpAnd, a, b)), "( a AND b ) IS NULL"}, {isNull(not(a)), "( NOT a ) IS NULL"},
		{isNull(isNull(a)), "( a IS NULL ) IS NULL"}, {isNull(not(isNull(a))), "( a IS NOT NULL ) IS NULL"},
		{not(isNull(op(api.OpAdd, a, b))), "a + b IS NOT NULL"}, {not(isNull(op(api.OpEq, a, b))), "( a = b ) IS NOT NULL"}, {not(isNull(not(a))), "( NOT a ) IS NOT NULL"},
		{not(isNull(isNull(a))), "( a IS NULL ) IS NOT NULL"}, {not(not(isNull(a))), "NOT a IS NOT NULL"}, {not(not(not(isNull(a)))), "NOT NOT a IS NOT NULL"},
		{not(isNull(not(isNull(a)))), "( a IS NOT NULL ) IS NOT NULL"},
	} {
		wantExpr(t, one.e, one.want)
	}
}

// operator is how one is written, and the level of what it makes.
type operator struct {
	text        string
	code, level int
}

// written are the operators: the level 3 is that of NOT, 7 that of factors.
var written = []operator{
	{"OR", api.OpOr, 1}, {"AND", api.OpAnd, 2}, {"=", api.OpEq, 4}, {"<>", api.OpNe, 4}, {"<", api.OpLt, 4}, {"<=", api.OpLe, 4}, {">", api.OpGt, 4}, {">=", api.OpGe, 4},
	{"+", api.OpAdd, 5}, {"-", api.OpSub, 5}, {"*", api.OpMul, 6}, {"/", api.OpDiv, 6}, {"%", api.OpMod, 6},
}

const tests = 4 // the level of tests

// side is what may stand on one of an operator.
type side struct {
	e     api.Expr
	text  string
	level int
}

func sides() []side {
	l := []side{
		{not(a), "NOT a", 3}, {not(not(a)), "NOT NOT a", 3}, {isNull(a), "a IS NULL", tests}, {not(isNull(a)), "a IS NOT NULL", tests},
		{a, "a", 7}, {colOf("t", "a"), "t . a", 7}, {n(5), "5", 7}, {n(-5), "- 5", 7}, {neg(a), "- a", 7}, {neg(n(5)), "- ( 5 )", 7}, {val(null), "NULL", 7}, {val(text("a")), "'a'", 7},
	}
	for _, one := range written {
		l = append(l, side{op(one.code, a, b), "a " + one.text + " b", one.level})
	}
	return l
}

func TestSidesOfOperators(t *testing.T) { // P10.1
	bracketed := func(yes bool, s string) string {
		if yes {
			return "( " + s + " )"
		}
		return s
	}
	for _, o := range written {
		for _, x := range sides() {
			left := bracketed(x.level < o.level || x.level == tests && o.level == tests, x.text)
			right := bracketed(x.level <= o.level, x.text)
			wantExpr(t, op(o.code, x.e, c), left+" "+o.text+" c")
			wantExpr(t, op(o.code, c, x.e), "c "+o.text+" "+right)
			wantExpr(t, op(o.code, x.e, x.e), left+" "+o.text+" "+right)
		}
	}
}

func TestOfRows(t *testing.T) { // P10.1
	for _, o := range written {
		left := nested(30, a, func(e api.Expr) api.Expr { return op(o.code, e, b) })
		right := nested(10, a, func(e api.Expr) api.Expr { return op(o.code, b, e) })
		if o.level != tests {
			wantExpr(t, left, "a"+strings.Repeat(" "+o.text+" b", 30))
		} else {
			wantErr(t, left, api.ErrNest)
		}
		wantExpr(t, right, strings.Repeat("b "+o.text+" ( ", 9)+"b "+o.text+" a"+strings.Repeat(" )", 9))
	}
}

// wrongValues are values that may not stand in an expression.
func wrongValues() []api.Value {
	return []api.Value{
		{Kind: 3}, {Kind: -1}, {Kind: api.MaxInt}, {Kind: api.MinInt}, {Num: 1}, {Num: api.MinInt}, {Text: "a"},
		{Kind: api.KindNum, Text: "a"}, {Kind: api.KindNum, Num: 5, Text: "5"}, num(api.MinInt),
		{Kind: api.KindText, Num: 1}, {Kind: api.KindText, Num: api.MinInt}, text(strings.Repeat("a", 41)), text(strings.Repeat("'", 41)), text(strings.Repeat("a", 3000)),
	}
}

// wrongNames are no names, nor empty.
func wrongNames() []string {
	return []string{"A", "aB", "5", "5a", "a b", "a ", " a", "a.b", "a . b", "a-b", "'a'", "NULL", "*", "a\n", "\x00", "a\x00", "é", "abcdefghijklmnopq", strings.Repeat("a", 3000), "a;", "--", "-"}
}

// wrongExprs are expressions of which something is not right.
func wrongExprs() []api.Expr {
	var l []api.Expr
	for _, v := range wrongValues() {
		l = append(l, val(v))
	}
	for _, s := range wrongNames() {
		l = append(l, col(s), colOf(s, "a"), colOf("a", s), colOf(s, s))
	}
	l = append(l, col(""), colOf("a", ""), colOf("", ""))
	for _, kind := range []int{0, 7, -1, 100, api.MaxInt, api.MinInt} {
		l = append(l, api.Expr{Kind: kind}, api.Expr{Kind: kind, Args: exprs(a)}, api.Expr{Kind: kind, Name: "a"}, api.Expr{Kind: kind, Value: num(1)}, api.Expr{Kind: kind, Op: 1, Args: exprs(a, b)})
	}
	for _, o := range []int{0, 14, -1, 100, api.MaxInt, api.MinInt} {
		l = append(l, op(o, a, b))
	}
	for size := range 5 {
		if size != 2 {
			l = append(l, api.Expr{Kind: api.ExprOp, Op: api.OpAdd, Args: times(size, a)})
		}
		if size != 1 {
			l = append(l, api.Expr{Kind: api.ExprNot, Args: times(size, a)}, api.Expr{Kind: api.ExprNeg, Args: times(size, a)}, api.Expr{Kind: api.ExprNull, Args: times(size, a)})
		}
		if size != 0 {
			l = append(l, api.Expr{Kind: api.ExprValue, Args: times(size, a)}, api.Expr{Kind: api.ExprColumn, Name: "a", Args: times(size, a)})
		}
	}
	return append(l, unnamed()...)
}

// unnamed are expressions in which one field that the kind does not name is not zero.
func unnamed() []api.Expr {
	named := map[int]string{api.ExprValue: "Kind Value", api.ExprColumn: "Kind Table Name", api.ExprOp: "Kind Op Args", api.ExprNot: "Kind Args", api.ExprNeg: "Kind Args", api.ExprNull: "Kind Args"}
	full := reflect.ValueOf(api.Expr{Op: api.OpAdd, Table: "t", Name: "a", Value: num(0), Args: exprs(a)})
	var l []api.Expr
	for _, right := range []api.Expr{val(null), n(5), val(text("a")), a, colOf("a", "b"), op(api.OpAdd, a, b), not(a), not(isNull(a)), neg(a), isNull(a)} {
		for i := range full.NumField() {
			if slices.Contains(strings.Fields(named[right.Kind]), full.Type().Field(i).Name) {
				continue
			}
			wrong := right
			reflect.ValueOf(&wrong).Elem().Field(i).Set(full.Field(i))
			l = append(l, wrong)
		}
	}
	return l
}

// around are expressions in which e stands, in each place of each kind.
func around(e api.Expr) []api.Expr {
	l := exprs(not(e), neg(e), isNull(e), not(isNull(e)), not(not(e)), neg(neg(e)), op(api.OpAdd, neg(op(api.OpMul, a, not(e))), b))
	for _, o := range written {
		l = append(l, op(o.code, e, a), op(o.code, a, e), op(o.code, e, e))
	}
	return l
}

// holding are statements in which e stands, in each place where one may.
func holding(e api.Expr) []api.Statement {
	l := []api.Statement{
		with(update, func(s *api.Statement) { s.Sets = []api.Set{{Name: "a", Expr: e}} }),
		with(update, func(s *api.Statement) { s.Sets = []api.Set{{Name: "a", Expr: a}, {Name: "b", Expr: e}} }),
		with(update, func(s *api.Statement) { s.Where = exprs(e) }),
		with(remove, func(s *api.Statement) { s.Where = exprs(e) }),
		with(selects, func(s *api.Statement) { s.Where = exprs(e) }),
		with(selects, func(s *api.Statement) { s.Join, s.On = "u", exprs(e) }),
		with(selects, func(s *api.Statement) { s.Items = items(all, item(e)) }),
	}
	for _, kind := range []int{api.ItemExpr, api.ItemCount, api.ItemSum, api.ItemMin, api.ItemMax} {
		l = append(l, with(selects, func(s *api.Statement) { s.Items = items(itemOf(kind, e)) }))
	}
	return l
}

func TestWrongExprs(t *testing.T) { // P10.1, P10.2
	for _, e := range wrongExprs() {
		wantErr(t, e, api.ErrForm)
		for _, outer := range around(e) {
			wantErr(t, outer, api.ErrForm)
		}
		for _, s := range holding(e) {
			wantScriptErr(t, api.ErrForm, s)
			wantScriptErr(t, api.ErrForm, drop, s, drop)
		}
		wantScriptErr(t, api.ErrForm, with(selects, func(s *api.Statement) { s.Group = exprs(e) }))
		wantScriptErr(t, api.ErrForm, with(selects, func(s *api.Statement) { s.Order = exprs(e) }))
	}
}

func TestOfCreate(t *testing.T) { // P10.2
	s := create
	s.Columns = []api.Column{{Name: "a", Kind: api.KindNum}, {Name: "b", Kind: api.KindText, NotNull: true}, {Name: "c", Kind: api.KindText, Unique: true}, {Name: "a", Kind: api.KindNum, NotNull: true, Unique: true}}
	s.Primary = "zz"
	wantScript(t, "CREATE TABLE t ( a INT , b TEXT NOT NULL , c TEXT UNIQUE , a INT NOT NULL UNIQUE , PRIMARY KEY ( zz ) )", s)
	wantScript(t, "CREATE TABLE t ( a INT , PRIMARY KEY ( a ) )", create)
	for _, name := range append(wrongNames(), "") {
		wantScriptErr(t, api.ErrForm, with(create, func(s *api.Statement) { s.Primary = name }))
		for at := range 3 {
			columns := times(3, create.Columns[0])
			columns[at].Name = name
			wantScriptErr(t, api.ErrForm, with(create, func(s *api.Statement) { s.Columns = columns }))
		}
	}
	for _, kind := range []int{api.KindNull, 3, -1, api.MaxInt, api.MinInt} {
		wantScriptErr(t, api.ErrForm, with(create, func(s *api.Statement) { s.Columns = []api.Column{{Name: "a", Kind: kind}} }))
		wantScriptErr(t, api.ErrForm, with(create, func(s *api.Statement) {
			s.Columns = append(times(2, create.Columns[0]), api.Column{Name: "a", Kind: kind})
		}))
	}
}

func TestOfDropAndInsert(t *testing.T) { // P10.2
	wantScript(t, "DROP TABLE t", drop)
	wantScript(t, "INSERT INTO t VALUES ( 1 )", insert)
	wantScript(t, "INSERT INTO t VALUES ( NULL , 0 , - 5 , '' , 'it''s' ) , ( - 9223372036854775807 ) , ( 9223372036854775807 , 1 )",
		with(insert, func(s *api.Statement) {
			s.Rows = rows(row(null, num(0), num(-5), text(""), text("it's")), row(num(-api.MaxInt)), row(num(api.MaxInt), num(1)))
		}))
	for _, v := range wrongValues() {
		for _, l := range [][][]api.Value{{{v}}, {{num(1), v}}, {{v, num(1)}}, {{num(1)}, {num(1), v}}, {{num(1)}, {v}, {num(1)}}} {
			wantScriptErr(t, api.ErrForm, with(insert, func(s *api.Statement) { s.Rows = l }))
		}
	}
}

func TestOfUpdateAndDelete(t *testing.T) { // P10.2
	wantScript(t, "UPDATE t SET a = 1", update)
	wantScript(t, "UPDATE t SET a = b = c , b = a OR b , a = - 5 WHERE NOT a", with(update, func(s *api.Statement) {
		s.Sets = []api.Set{{Name: "a", Expr: op(api.OpEq, b, c)}, {Name: "b", Expr: op(api.OpOr, a, b)}, {Name: "a", Expr: n(-5)}}
		s.Where = exprs(not(a))
	}))
	wantScript(t, "DELETE FROM t", remove)
	wantScript(t, "DELETE FROM t WHERE a OR b", with(remove, func(s *api.Statement) { s.Where = exprs(op(api.OpOr, a, b)) }))
	for _, name := range append(wrongNames(), "") {
		wantScriptErr(t, api.ErrForm, with(update, func(s *api.Statement) { s.Sets = []api.Set{{Name: name, Expr: a}} }))
		wantScriptErr(t, api.ErrForm, with(update, func(s *api.Statement) { s.Sets = []api.Set{{Name: "a", Expr: a}, {Name: name, Expr: a}} }))
	}
}

func TestOfSelect(t *testing.T) { // P10.2
	wantScript(t, "SELECT * FROM t", selects)
	sum := op(api.OpAdd, a, b)
	l := items(all, item(sum), api.Item{Kind: api.ItemRows}, itemOf(api.ItemCount, sum), itemOf(api.ItemSum, sum), itemOf(api.ItemMin, a), itemOf(api.ItemMax, op(api.OpOr, a, b)), item(n(-5)))
	s := with(selects, func(s *api.Statement) {
		s.Items, s.Join, s.On, s.Where = l, "u", exprs(op(api.OpEq, colOf("t", "a"), colOf("u", "a"))), exprs(op(api.OpOr, a, b))
		s.Group, s.Order, s.Desc, s.Limit = exprs(a), exprs(colOf("t", "a")), true, api.MaxInt
	})
	wantScript(t, "SELECT * , a + b , COUNT ( * ) , COUNT ( a + b ) , SUM ( a + b ) , MIN ( a ) , MAX ( a OR b ) , - 5 FROM t JOIN u ON t . a = u . a"+
		" WHERE a OR b GROUP BY a ORDER BY t . a DESC LIMIT 9223372036854775807", s)
}

func TestOfWhatMayBeLeftOut(t *testing.T) { // P10.2
	parts := []struct {
		s   string
		put func(s *api.Statement)
	}{
		{" JOIN u ON 1", func(s *api.Statement) { s.Join, s.On = "u", exprs(n(1)) }},
		{" WHERE 2", func(s *api.Statement) { s.Where = exprs(n(2)) }},
		{" GROUP BY c", func(s *api.Statement) { s.Group = exprs(c) }},
		{" ORDER BY d . e", func(s *api.Statement) { s.Order = exprs(colOf("d", "e")) }},
		{" DESC", func(s *api.Statement) { s.Desc = true }},
		{" LIMIT 0", func(s *api.Statement) { s.Limit = 0 }},
	}
	const order, desc = 1 << 3, 1 << 4
	for set := range 1 << len(parts) {
		s, want := selects, "SELECT * FROM t"
		for i, p := range parts {
			if set>>i&1 == 1 {
				p.put(&s)
				want += p.s
			}
		}
		if set&desc != 0 && set&order == 0 {
			wantScriptErr(t, api.ErrForm, s)
		} else {
			wantScript(t, want, s)
		}
	}
}

func TestWrongSelects(t *testing.T) { // P10.2
	for _, change := range []func(s *api.Statement){
		func(s *api.Statement) { s.Join = "u" },
		func(s *api.Statement) { s.On = exprs(a) },
		func(s *api.Statement) { s.Join, s.On = "u", exprs(a, b) },
		func(s *api.Statement) { s.On = exprs(a, b) },
		func(s *api.Statement) { s.Where = exprs(a, b) },
		func(s *api.Statement) { s.Group = exprs(a, b) },
		func(s *api.Statement) { s.Order = exprs(a, b) },
		func(s *api.Statement) { s.Order, s.Desc = exprs(a, b), true },
		func(s *api.Statement) { s.Desc = true },
		func(s *api.Statement) { s.Desc, s.Group = true, exprs(a) },
		func(s *api.Statement) { s.Limit = -2 },
		func(s *api.Statement) { s.Limit = api.MinInt },
	} {
		wantScriptErr(t, api.ErrForm, with(selects, change))
	}
	for _, name := range wrongNames() {
		wantScriptErr(t, api.ErrForm, with(selects, func(s *api.Statement) { s.Join, s.On = name, exprs(a) }))
	}
	// Group and Order are columns alone.
	for _, e := range exprs(n(5), val(null), val(text("a")), op(api.OpAdd, a, b), not(a), neg(a), isNull(a)) {
		wantScriptErr(t, api.ErrForm, with(selects, func(s *api.Statement) { s.Group = exprs(e) }))
		wantScriptErr(t, api.ErrForm, with(selects, func(s *api.Statement) { s.Order = exprs(e) }))
	}
	for _, limit := range []int{0, 1, api.MaxInt} {
		wantScript(t, "SELECT * FROM t LIMIT "+strconv.Itoa(limit), with(selects, func(s *api.Statement) { s.Limit = limit }))
	}
}

func TestWrongItems(t *testing.T) { // P10.2
	var wrong []api.Item
	for _, kind := range []int{0, 8, -1, 100, api.MaxInt, api.MinInt} {
		wrong = append(wrong, api.Item{Kind: kind}, itemOf(kind, a))
	}
	for size := range 4 {
		for kind := api.ItemAll; kind <= api.ItemMax; kind++ {
			most := 1
			if kind == api.ItemAll || kind == api.ItemRows {
				most = 0
			}
			if size != most {
				wrong = append(wrong, api.Item{Kind: kind, Args: times(size, a)})
			}
		}
	}
	for _, one := range wrong {
		wantScriptErr(t, api.ErrForm, with(selects, func(s *api.Statement) { s.Items = items(one) }))
		wantScriptErr(t, api.ErrForm, with(selects, func(s *api.Statement) { s.Items = items(all, item(a), one) }))
		wantScriptErr(t, api.ErrForm, with(selects, func(s *api.Statement) { s.Items = items(one, all) }))
	}
}

func TestWrongStatements(t *testing.T) { // P10.2
	for _, kind := range []int{0, 7, -1, 100, api.MaxInt, api.MinInt} {
		wantScriptErr(t, api.ErrForm, api.Statement{Kind: kind, Table: "t", Limit: -1})
		for _, s := range states {
			wantScriptErr(t, api.ErrForm, with(s, func(s *api.Statement) { s.Kind = kind }))
		}
	}
	wantScriptErr(t, api.ErrForm, api.Statement{})
	for _, s := range states {
		for _, name := range append(wrongNames(), "") {
			wantScriptErr(t, api.ErrForm, with(s, func(s *api.Statement) { s.Table = name }))
		}
		if s.Kind != api.StSelect {
			for _, limit := range []int{0, 1, -2, api.MaxInt, api.MinInt} {
				wantScriptErr(t, api.ErrForm, with(s, func(s *api.Statement) { s.Limit = limit }))
			}
		}
	}
}

func TestWhatAKindDoesNotName(t *testing.T) { // P10.2
	named := map[int]string{
		api.StCreate: "Columns Primary", api.StDrop: "", api.StInsert: "Rows", api.StUpdate: "Sets Where", api.StDelete: "Where",
		api.StSelect: "Items Join On Where Group Order Desc",
	}
	full := reflect.ValueOf(api.Statement{
		Columns: create.Columns, Primary: "a", Rows: insert.Rows, Sets: update.Sets, Items: selects.Items, Join: "u",
		On: exprs(a), Where: exprs(a), Group: exprs(a), Order: exprs(a), Desc: true,
	})
	for _, right := range states {
		known := append(strings.Fields(named[right.Kind]), "Kind", "Table", "Limit")
		for i := range full.NumField() {
			if slices.Contains(known, full.Type().Field(i).Name) {
				continue
			}
			wrong := right
			reflect.ValueOf(&wrong).Elem().Field(i).Set(full.Field(i))
			wantScriptErr(t, api.ErrForm, wrong)
			wantScriptErr(t, api.ErrForm, right, wrong)
		}
	}
}

func TestOfLists(t *testing.T) { // P10.2
	for size := range 40 {
		for _, one := range []struct {
			most       int
			s          api.Statement
			open, text string
			end        string
		}{
			{8, with(create, func(s *api.Statement) { s.Columns = times(size, create.Columns[0]) }), "CREATE TABLE t ( ", "a INT", " , PRIMARY KEY ( a ) )"},
			{16, with(insert, func(s *api.Statement) { s.Rows = times(size, row(num(1))) }), "INSERT INTO t VALUES ", "( 1 )", ""},
			{8, with(insert, func(s *api.Statement) { s.Rows = rows(times(size, num(-1))) }), "INSERT INTO t VALUES ( ", "- 1", " )"},
			{8, with(insert, func(s *api.Statement) { s.Rows = rows(row(null), times(size, null)) }), "INSERT INTO t VALUES ( NULL ) , ( ", "NULL", " )"},
			{8, with(update, func(s *api.Statement) { s.Sets = times(size, update.Sets[0]) }), "UPDATE t SET ", "a = 1", ""},
			{8, with(selects, func(s *api.Statement) { s.Items = times(size, all) }), "SELECT ", "*", " FROM t"},
		} {
			if size == 0 || size > one.most {
				wantScriptErr(t, api.ErrForm, one.s)
			} else {
				wantScript(t, one.open+strings.Join(times(size, one.text), " , ")+one.end, one.s)
			}
		}
	}
	for _, s := range states[3:] {
		for size := range 4 {
			changed := with(s, func(s *api.Statement) { s.Where = times(size, a) })
			if _, e := printer.Script(changed); (e == api.OK) != (size < 2) || size > 1 && e != api.ErrForm {
				t.Errorf("Script of %d Where: %d", size, e)
			}
		}
	}
}

func TestOfScripts(t *testing.T) { // P10.2
	wantScriptErr(t, api.ErrForm)
	wantScriptErr(t, api.ErrForm, []api.Statement{}...)
	for size := 1; size < 20; size++ {
		if size <= 8 {
			wantScript(t, strings.Join(times(size, "DROP TABLE t"), " ; "), times(size, drop)...)
			for at := range size {
				l := times(size, drop)
				l[at].Table = "T"
				wantScriptErr(t, api.ErrForm, l...)
			}
			continue
		}
		// That there are too many is told ahead of what is wrong with them.
		wantScriptErr(t, api.ErrLong, times(size, drop)...)
		wantScriptErr(t, api.ErrLong, times(size, api.Statement{})...)
	}
	wantScript(t, "CREATE TABLE t ( a INT , PRIMARY KEY ( a ) ) ; DROP TABLE t ; INSERT INTO t VALUES ( 1 ) ; UPDATE t SET a = 1 ; DELETE FROM t ; SELECT * FROM t", states...)
}

// deepens are what makes deeper what it is of, and what is written ahead of that and behind it.
var deepens = map[string]struct {
	make        func(e api.Expr) api.Expr
	open, close string
}{
	"NOT": {not, "NOT ", ""},
	"-":   {neg, "- ", ""},
	"* (": {func(e api.Expr) api.Expr { return op(api.OpMul, c, e) }, "c * ( ", " )"},
	") +": {func(e api.Expr) api.Expr { return op(api.OpAdd, not(e), c) }, "( NOT ", " ) + c"},
	"=":   {func(e api.Expr) api.Expr { return op(api.OpEq, c, e) }, "c = ( ", " )"},
	"IS":  {isNull, "( ", " ) IS NULL"},
	"ISN": {func(e api.Expr) api.Expr { return not(isNull(e)) }, "( ", " ) IS NOT NULL"},
}

func TestDepth(t *testing.T) { // P10.1, P10.2
	for what, by := range deepens {
		inner := map[string]api.Expr{"NOT": a, "-": a, "* (": op(api.OpMul, a, b), ") +": a, "=": op(api.OpEq, a, b), "IS": isNull(a), "ISN": not(isNull(a))}[what]
		first, _ := printer.Expr(inner)
		step := 1
		if what == ") +" {
			step = 2
		}
		for count := range 14 {
			e := nested(count, inner, by.make)
			deep := count * step
			if deep > 10 {
				wantErr(t, e, api.ErrNest)
			} else {
				wantExpr(t, e, strings.Repeat(by.open, count)+first+strings.Repeat(by.close, count))
			}
			for _, s := range holding(e) {
				for _, l := range [][]api.Statement{{s}, {drop, s, drop}} {
					if _, err := printer.Script(l...); (err == api.ErrNest) != (deep > 10) || (err == api.OK) != (deep <= 10) {
						t.Errorf("%s: Script at depth %d: %d", what, deep, err)
					}
				}
			}
		}
	}
}

func TestDepthIsLeftAgain(t *testing.T) { // P10.1
	ten := nested(10, a, not)
	tenth := strings.Repeat("NOT ", 10) + "a"
	wantExpr(t, op(api.OpAnd, ten, ten), tenth+" AND "+tenth)
	wantErr(t, op(api.OpAdd, ten, a), api.ErrNest)
	wantErr(t, op(api.OpAdd, a, ten), api.ErrNest)
	wantErr(t, op(api.OpOr, a, op(api.OpOr, a, ten)), api.ErrNest)
	wantExpr(t, op(api.OpOr, op(api.OpOr, a, ten), ten), "a OR "+tenth+" OR "+tenth)
	// Neither the NOT of IS NOT NULL nor the - of a number makes anything deeper.
	wantExpr(t, nested(10, not(isNull(a)), not), tenth+" IS NOT NULL")
	wantErr(t, nested(11, not(isNull(a)), not), api.ErrNest)
	wantExpr(t, nested(10, n(-5), neg), strings.Repeat("- ", 11)+"5")
	wantErr(t, nested(11, n(-5), neg), api.ErrNest)
	// The brackets of a number do.
	wantExpr(t, nested(9, n(5), neg), strings.Repeat("- ", 9)+"( 5 )")
	wantErr(t, nested(10, n(5), neg), api.ErrNest)
	wantExpr(t, nested(10, a, neg), strings.Repeat("- ", 10)+"a")
	// Those of an item do not.
	for kind, word := range map[int]string{api.ItemCount: "COUNT", api.ItemSum: "SUM", api.ItemMin: "MIN", api.ItemMax: "MAX"} {
		wantScript(t, "SELECT "+word+" ( "+tenth+" ) FROM t", with(selects, func(s *api.Statement) { s.Items = items(itemOf(kind, ten)) }))
	}
}

// longExpr is an expression whose text has so many bytes (from 60 on).
func longExpr(size int) api.Expr {
	e := val(text(""))
	left := size - 2
	for left > 0 {
		// " + ''" takes 5 bytes, and what is in the quotes its own.
		inner := min(left-5, 40)
		if rest := left - 5 - inner; rest > 0 && rest < 5 {
			inner -= 5
		}
		e = op(api.OpAdd, e, val(text(strings.Repeat("x", inner))))
		left -= 5 + inner
	}
	return e
}

func TestLong(t *testing.T) { // P10.1, P10.2
	for size := 60; size < 2200; size++ {
		e := longExpr(size)
		s, err := printer.Expr(e)
		if size > 2000 {
			wantErr(t, e, api.ErrLong)
		} else if len(s) != size || err != api.OK {
			t.Fatalf("an expression of %d bytes: %d bytes, %d", size, len(s), err)
		}
		where := with(remove, func(s *api.Statement) { s.Where = exprs(e) })
		for _, l := range [][]api.Statement{{where}, {drop, where, drop}} {
			other := len("DELETE FROM t WHERE ") + (len(l)-1)*len("DROP TABLE t ; ")
			if s, err := printer.Script(l...); size+other > 2000 && (err != api.ErrLong || s != "") || size+other <= 2000 && (err != api.OK || len(s) != size+other) {
				t.Fatalf("a script of %d bytes: %d bytes, %d", size+other, len(s), err)
			}
		}
	}
}

func TestWhichErrorIsTold(t *testing.T) { // P10.1, P10.2, W4
	long, deep, wrong := longExpr(3000), nested(11, a, not), col("A")
	or := func(l ...api.Expr) api.Expr {
		e := a
		for _, one := range l {
			e = op(api.OpOr, e, one)
		}
		return e
	}
	for _, one := range []struct {
		l    []api.Expr
		want api.Errno
	}{
		{exprs(long), api.ErrLong}, {exprs(deep), api.ErrNest}, {exprs(wrong), api.ErrForm}, {exprs(long, deep), api.ErrNest}, {exprs(deep, long), api.ErrNest},
		{exprs(long, wrong), api.ErrForm}, {exprs(wrong, long), api.ErrForm}, {exprs(deep, wrong), api.ErrForm}, {exprs(long, deep, wrong), api.ErrForm},
	} {
		wantErr(t, or(one.l...), one.want)
		var l []api.Statement
		for _, e := range one.l {
			l = append(l, with(remove, func(s *api.Statement) { s.Where = exprs(e) }))
		}
		wantScriptErr(t, one.want, l...)
		wantScriptErr(t, api.ErrLong, append(l, times(8, drop)...)...)
		for _, s := range holding(or(one.l...)) {
			wantScriptErr(t, one.want, s)
		}
	}
}

func TestGreatDepth(t *testing.T) { // W1
	const most = 1<<16 - 2
	for _, by := range deepens {
		wantErr(t, nested(most/2, a, by.make), api.ErrNest)
		wantErr(t, nested(most/2, col(""), by.make), api.ErrForm)
	}
	left := func(e api.Expr) api.Expr { return op(api.OpAdd, e, a) }
	wantErr(t, nested(most, a, not), api.ErrNest)
	wantErr(t, nested(most, a, left), api.ErrLong)
	wantErr(t, nested(most, n(api.MinInt), left), api.ErrForm)
	for _, s := range holding(nested(most, a, left)) {
		wantScriptErr(t, api.ErrLong, s)
	}
}
