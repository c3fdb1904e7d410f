package parse_test

import (
	"reflect"
	"strings"
	"testing"

	"vestry/api"
	"vestry/lex"
	"vestry/parse"
)

var null = api.Value{}

func num(n int) api.Value      { return api.Value{Kind: api.KindNum, Num: n} }
func text(s string) api.Value  { return api.Value{Kind: api.KindText, Text: s} }
func val(v api.Value) api.Expr { return api.Expr{Kind: api.ExprValue, Value: v} }
func n(i int) api.Expr         { return val(num(i)) }
func col(name string) api.Expr { return api.Expr{Kind: api.ExprColumn, Name: name} }
func colOf(table, name string) api.Expr {
	return api.Expr{Kind: api.ExprColumn, Table: table, Name: name}
}
func op(o int, a, b api.Expr) api.Expr     { return api.Expr{Kind: api.ExprOp, Op: o, Args: exprs(a, b)} }
func not(e api.Expr) api.Expr              { return api.Expr{Kind: api.ExprNot, Args: exprs(e)} }
func neg(e api.Expr) api.Expr              { return api.Expr{Kind: api.ExprNeg, Args: exprs(e)} }
func isNull(e api.Expr) api.Expr           { return api.Expr{Kind: api.ExprNull, Args: exprs(e)} }
func exprs(l ...api.Expr) []api.Expr       { return l }
func row(l ...api.Value) []api.Value       { return l }
func items(l ...api.Item) []api.Item       { return l }
func item(e api.Expr) api.Item             { return api.Item{Kind: api.ItemExpr, Args: exprs(e)} }
func itemOf(kind int, e api.Expr) api.Item { return api.Item{Kind: kind, Args: exprs(e)} }

var all = api.Item{Kind: api.ItemAll}

func wantOne(t *testing.T, s string, want api.Expr) {
	t.Helper()
	if e, f := parse.One(s); !reflect.DeepEqual(e, want) || f != (api.Fault{}) {
		t.Errorf("One(%q): %+v, %v, not %+v", s, e, f, want)
	}
}

func wantScript(t *testing.T, s string, want ...api.Statement) {
	t.Helper()
	if l, f := parse.Script(s); !reflect.DeepEqual(l, want) || f != (api.Fault{}) {
		t.Errorf("Script(%q): %+v, %v, not %+v", s, l, f, want)
	}
}

func wantFaultOfOne(t *testing.T, s string, code api.Errno, at int) {
	t.Helper()
	if e, f := parse.One(s); !reflect.DeepEqual(e, api.Expr{}) || f != (api.Fault{Code: code, At: at}) {
		t.Errorf("One(%q): %+v, %v, not {%d %d}", s, e, f, code, at)
	}
}

func wantFault(t *testing.T, s string, code api.Errno, at int) {
	t.Helper()
	if l, f := parse.Script(s); len(l) != 0 || f != (api.Fault{Code: code, At: at}) {
		t.Errorf("Script(%q): %+v, %v, not {%d %d}", s, l, f, code, at)
	}
}

// marked is a source without the mark !, and where that stood.
func marked(s string) (string, int) {
	at := strings.Index(s, "!")
	return s[:at] + s[at+1:], at
}

func TestExamples(t *testing.T) { // P9.1, P9.2
	wantOne(t, "1 + 2 * -3", op(api.OpAdd, n(1), op(api.OpMul, n(2), n(-3))))
	wantOne(t, "NOT a IS NULL AND b", op(api.OpAnd, not(isNull(col("a"))), col("b")))
	wantScript(t, "SELECT * FROM t LIMIT 2", api.Statement{Kind: api.StSelect, Items: items(all), Table: "t", Limit: 2})
	wantFault(t, "SELECT FROM t", api.ErrForm, 7)
	wantFault(t, "DROP TABLE t u", api.ErrForm, 13)
}

func TestOfFactors(t *testing.T) { // P9.2
	for s, want := range map[string]api.Expr{
		"NULL": val(null), "0": n(0), "007": n(7), "9223372036854775807": n(api.MaxInt),
		"''": val(text("")), "'it''s'": val(text("it's")), "'NULL'": val(text("NULL")), "'('": val(text("(")), "'-'": val(text("-")),
		"a": col("a"), "a.b": colOf("a", "b"), "a . a": colOf("a", "a"), "not": col("not"), "null": col("null"),
		"-5": n(-5), "- 5": n(-5), "-\n-- x\n5": n(-5), "-0": n(0), "-9223372036854775807": n(-api.MaxInt),
		"- -5": neg(n(-5)), "- - - 5": neg(neg(n(-5))), "-a": neg(col("a")), "-a.b": neg(colOf("a", "b")), "- -a": neg(neg(col("a"))),
		"-(5)": neg(n(5)), "-(-5)": neg(n(-5)), "(-5)": n(-5), "-NULL": neg(val(null)), "-'5'": neg(val(text("5"))),
		"(a)": col("a"), "((a))": col("a"), "(a.b)": colOf("a", "b"), "((NULL))": val(null), "-(a + b)": neg(op(api.OpAdd, col("a"), col("b"))),
	} {
		wantOne(t, s, want)
	}
}

// level are the operators of one, which go together from the left.
type level map[string]int

// levels are all rows of operators, each of a higher level than those ahead.
var levels = []level{
	{"OR": api.OpOr}, {"AND": api.OpAnd},
	{"=": api.OpEq, "<>": api.OpNe, "<": api.OpLt, "<=": api.OpLe, ">": api.OpGt, ">=": api.OpGe},
	{"+": api.OpAdd, "-": api.OpSub}, {"*": api.OpMul, "/": api.OpDiv, "%": api.OpMod},
}

const tests = 2 // the level of which one side is no other one of it

func TestOfTwoOperators(t *testing.T) { // P9.2
	a, b, c := col("a"), col("b"), col("c")
	for i, left := range levels {
		for x, first := range left {
			wantOne(t, "a "+x+" b", op(first, a, b))
			for k, right := range levels {
				for y, second := range right {
					s := "a " + x + " b " + y + " c"
					switch {
					case i == tests && k == tests:
						wantFaultOfOne(t, s, api.ErrForm, len("a "+x+" b "))
					case i >= k:
						wantOne(t, s, op(second, op(first, a, b), c))
					default:
						wantOne(t, s, op(first, a, op(second, b, c)))
					}
					wantOne(t, "(a "+x+" b) "+y+" c", op(second, op(first, a, b), c))
					wantOne(t, "a "+x+" (b "+y+" c)", op(first, a, op(second, b, c)))
				}
			}
		}
	}
}

func TestOfLongRows(t *testing.T) { // P9.2
	for i, one := range levels {
		for x, code := range one {
			if i == tests {
				continue
			}
			want := n(0)
			s := "0"
			for range 300 {
				want = op(code, want, col("a"))
				s += " " + x + " a"
			}
			if len(s) > api.MaxSource {
				t.Fatal("too long a row")
			}
			wantOne(t, s, want)
		}
	}
	wantOne(t, "1 - 2 - 3", op(api.OpSub, op(api.OpSub, n(1), n(2)), n(3)))
	wantOne(t, "1-2-3", op(api.OpSub, op(api.OpSub, n(1), n(2)), n(3)))
	wantOne(t, "1 - -2", op(api.OpSub, n(1), n(-2)))
	wantOne(t, "1 * - 2 / - a", op(api.OpDiv, op(api.OpMul, n(1), n(-2)), neg(col("a"))))
	wantOne(t, "-5 - 5", op(api.OpSub, n(-5), n(5)))
	wantOne(t, "-a * b", op(api.OpMul, neg(col("a")), col("b")))
	wantOne(t, "a -5", op(api.OpSub, col("a"), n(5)))
	wantOne(t, "(a) -5", op(api.OpSub, col("a"), n(5)))
	wantOne(t, "'a' -5", op(api.OpSub, val(text("a")), n(5)))
	wantOne(t, "NULL - NULL", op(api.OpSub, val(null), val(null)))
}

func TestOfNotAndNull(t *testing.T) { // P9.2
	a, b := col("a"), col("b")
	wantOne(t, "NOT a", not(a))
	wantOne(t, "NOT NOT a", not(not(a)))
	wantOne(t, "NOT NULL", not(val(null)))
	wantOne(t, "NOT a = b", not(op(api.OpEq, a, b)))
	wantOne(t, "NOT (a) = b", not(op(api.OpEq, a, b)))
	wantOne(t, "(NOT a) = b", op(api.OpEq, not(a), b))
	wantOne(t, "NOT a AND b", op(api.OpAnd, not(a), b))
	wantOne(t, "NOT (a AND b)", not(op(api.OpAnd, a, b)))
	wantOne(t, "a AND NOT b OR NOT a", op(api.OpOr, op(api.OpAnd, a, not(b)), not(a)))
	wantOne(t, "a IS NULL", isNull(a))
	wantOne(t, "a IS NOT NULL", not(isNull(a)))
	wantOne(t, "NOT a IS NOT NULL", not(not(isNull(a))))
	wantOne(t, "NULL IS NULL", isNull(val(null)))
	wantOne(t, "a + b IS NULL", isNull(op(api.OpAdd, a, b)))
	wantOne(t, "-a IS NOT NULL", not(isNull(neg(a))))
	wantOne(t, "a IS NULL AND b IS NOT NULL", op(api.OpAnd, isNull(a), not(isNull(b))))
	wantOne(t, "(a = b) IS NULL", isNull(op(api.OpEq, a, b)))
	wantOne(t, "(a IS NULL) = b", op(api.OpEq, isNull(a), b))
	wantOne(t, "a = (b IS NULL)", op(api.OpEq, a, isNull(b)))
}

func TestFaultsOfOne(t *testing.T) { // P9.2
	for _, s := range []string{
		"!", " \n!", "a !b", "a !1", "a !'x'", "a !NULL", "a !;", "a !,", "a!; ", "a !)", "(!)", "(a!", "(a !b)", "(a!,b)", "((a)!", "(!;", "a !(b)",
		"a.!", "a.!5", "a.b!.c", "a.!NULL", "!.a", "1!.a", "1!.5", "'a'!.b", "(a)!.b", "a !a.b", "a.!*",
		"a +!", "a + !+ b", "!+ a", "a * !* b", "!* a", "!*", "a <!", "a = != b", "a = !", "a < !> b", "a <> !",
		"a = b !<> c", "a = b !IS NULL", "a IS NULL !IS NULL", "a IS NULL != b", "a IS NULL !+ b", "a IS NOT NULL !* b",
		"a IS !a", "a IS !", "a IS NOT !a", "a IS NOT !", "a IS NOT !NOT NULL", "a IS !5", "!IS NULL", "NOT !IS NULL",
		"NOT !", "NOT !)", "a !NOT b", "a = !NOT b", "a + !NOT b", "- !NOT b", "NOT !AND b", "a AND !", "a AND !AND b", "a OR !OR b", "a OR !AND b", "!OR a", "a AND (b OR !)",
		"-!", "- !)", "- !+ 5", "- - !", "-5 !5", "- !* 5", "-(!", "5 !(", "5 -- x\n!a",
		"!SELECT", "!COUNT(*)", "1 + !SUM(a)", "!INT", "a !DESC", "!TEXT", "a !FROM t",
	} {
		clean, at := marked(s)
		wantFaultOfOne(t, clean, api.ErrForm, at)
	}
}

func TestOfCreate(t *testing.T) { // P9.1
	create := func(table, primary string, l ...api.Column) api.Statement {
		return api.Statement{Kind: api.StCreate, Table: table, Columns: l, Primary: primary, Limit: -1}
	}
	wantScript(t, "CREATE TABLE t (id INT, n INT, PRIMARY KEY (id))", create("t", "id", api.Column{Name: "id", Kind: api.KindNum}, api.Column{Name: "n", Kind: api.KindNum}))
	wantScript(t, "CREATE TABLE t (a TEXT, PRIMARY KEY (b))", create("t", "b", api.Column{Name: "a", Kind: api.KindText}))
	wantScript(t, "CREATE TABLE t (a INT NOT NULL, a TEXT UNIQUE, c INT NOT NULL UNIQUE, d TEXT NOT NULL UNIQUE, PRIMARY KEY (a))", create("t", "a",
		api.Column{Name: "a", Kind: api.KindNum, NotNull: true}, api.Column{Name: "a", Kind: api.KindText, Unique: true},
		api.Column{Name: "c", Kind: api.KindNum, NotNull: true, Unique: true}, api.Column{Name: "d", Kind: api.KindText, NotNull: true, Unique: true}))
	wantScript(t, "CREATE TABLE int (text TEXT, PRIMARY KEY (int))", create("int", "int", api.Column{Name: "text", Kind: api.KindText}))
}

func TestOfDropInsertDelete(t *testing.T) { // P9.1
	wantScript(t, "DROP TABLE t", api.Statement{Kind: api.StDrop, Table: "t", Limit: -1})
	insert := func(rows ...[]api.Value) api.Statement {
		return api.Statement{Kind: api.StInsert, Table: "t", Rows: rows, Limit: -1}
	}
	wantScript(t, "INSERT INTO t VALUES (1)", insert(row(num(1))))
	wantScript(t, "INSERT INTO t VALUES (-1, NULL, 'it''s'), (- 9223372036854775807), ('', 0, -0)",
		insert(row(num(-1), null, text("it's")), row(num(-api.MaxInt)), row(text(""), num(0), num(0))))
	wantScript(t, "INSERT INTO t VALUES ('('), (')'), (','), ('NULL')", insert(row(text("(")), row(text(")")), row(text(",")), row(text("NULL"))))
	wantScript(t, "DELETE FROM t", api.Statement{Kind: api.StDelete, Table: "t", Limit: -1})
	wantScript(t, "DELETE FROM t WHERE a = 1 OR b", api.Statement{Kind: api.StDelete, Table: "t", Where: exprs(op(api.OpOr, op(api.OpEq, col("a"), n(1)), col("b"))), Limit: -1})
}

func TestOfUpdate(t *testing.T) { // P9.1
	update := func(where []api.Expr, l ...api.Set) api.Statement {
		return api.Statement{Kind: api.StUpdate, Table: "t", Sets: l, Where: where, Limit: -1}
	}
	wantScript(t, "UPDATE t SET a = 1", update(nil, api.Set{Name: "a", Expr: n(1)}))
	wantScript(t, "UPDATE t SET a = b = c, a = a + 1 WHERE t.a IS NOT NULL", update(exprs(not(isNull(colOf("t", "a")))),
		api.Set{Name: "a", Expr: op(api.OpEq, col("b"), col("c"))}, api.Set{Name: "a", Expr: op(api.OpAdd, col("a"), n(1))}))
}

func TestOfSelect(t *testing.T) { // P9.1
	a, b := col("a"), col("b")
	base := func(l ...api.Item) api.Statement {
		return api.Statement{Kind: api.StSelect, Table: "t", Items: l, Limit: -1}
	}
	wantScript(t, "SELECT * FROM t", base(all))
	wantScript(t, "SELECT *, a, *, t.a + 1 FROM t", base(all, item(a), all, item(op(api.OpAdd, colOf("t", "a"), n(1)))))
	wantScript(t, "SELECT COUNT(*), COUNT(a), SUM(a), MIN(a OR b), MAX(-a) FROM t", base(api.Item{Kind: api.ItemRows}, itemOf(api.ItemCount, a),
		itemOf(api.ItemSum, a), itemOf(api.ItemMin, op(api.OpOr, a, b)), itemOf(api.ItemMax, neg(a))))
	wantScript(t, "SELECT COUNT((a)), COUNT(-5), (a) FROM t", base(itemOf(api.ItemCount, a), itemOf(api.ItemCount, n(-5)), item(a)))
	wantScript(t, "SELECT a = b, NOT a, '*' FROM t", base(item(op(api.OpEq, a, b)), item(not(a)), item(val(text("*")))))
	wantScript(t, "SELECT * FROM t JOIN u ON t.a = u.a WHERE a GROUP BY t.a ORDER BY b DESC LIMIT 9223372036854775807", api.Statement{
		Kind: api.StSelect, Table: "t", Items: items(all), Join: "u", On: exprs(op(api.OpEq, colOf("t", "a"), colOf("u", "a"))),
		Where: exprs(a), Group: exprs(colOf("t", "a")), Order: exprs(b), Desc: true, Limit: api.MaxInt})
}

func TestOfWhatMayBeLeftOut(t *testing.T) { // P9.1
	parts := []struct {
		s   string
		put func(s *api.Statement)
	}{
		{" JOIN u ON 1", func(s *api.Statement) { s.Join, s.On = "u", exprs(n(1)) }},
		{" WHERE 2", func(s *api.Statement) { s.Where = exprs(n(2)) }},
		{" GROUP BY c", func(s *api.Statement) { s.Group = exprs(col("c")) }},
		{" ORDER BY d.e", func(s *api.Statement) { s.Order = exprs(colOf("d", "e")) }},
		{" DESC", func(s *api.Statement) { s.Desc = true }},
		{" LIMIT 0", func(s *api.Statement) { s.Limit = 0 }},
	}
	const order, desc = 3, 4
	for set := range 1 << len(parts) {
		source, want := "SELECT * FROM t", api.Statement{Kind: api.StSelect, Table: "t", Items: items(all), Limit: -1}
		bare := set>>order&1 == 0 && set>>desc&1 == 1
		fault := -1
		for i, p := range parts {
			if set>>i&1 == 0 {
				continue
			}
			if i == desc && bare {
				fault = len(source) + 1
			}
			source += p.s
			p.put(&want)
		}
		if bare {
			wantFault(t, source, api.ErrForm, fault)
			continue
		}
		wantScript(t, source, want)
		wantScript(t, source+";DROP TABLE t", want, api.Statement{Kind: api.StDrop, Table: "t", Limit: -1})
	}
	// Each part once, and in this order.
	for i, first := range parts {
		for k, second := range parts {
			if i >= k && i != desc && k != desc {
				wantFault(t, "SELECT * FROM t"+first.s+second.s, api.ErrForm, len("SELECT * FROM t"+first.s)+1)
			}
		}
	}
}

func TestFaultsOfStates(t *testing.T) { // P9.1
	for _, s := range []string{
		"!", "!;", "DROP TABLE t;!", "DROP TABLE t;!;", "DROP TABLE t !DROP TABLE t", "!a", "!5", "!'DROP'", "!TABLE t", "!FROM t", "!(DROP TABLE t)", "!drop TABLE t",
		"DROP !t", "DROP !", "DROP TABLE !", "DROP TABLE !5", "DROP TABLE !'t'", "DROP TABLE !TEXT", "DROP TABLE t!.u", "DROP TABLE t!,u",
		"CREATE !t", "CREATE TABLE !(", "CREATE TABLE t !a", "CREATE TABLE t (!)", "CREATE TABLE t (!PRIMARY KEY (a))", "CREATE TABLE t (!,", "CREATE TABLE t (a!)", "CREATE TABLE t (a !a",
		"CREATE TABLE t (a !5", "CREATE TABLE t (a !'TEXT'", "CREATE TABLE t (a !NOT NULL", "CREATE TABLE t (a INT!)", "CREATE TABLE t (a INT!", "CREATE TABLE t (a INT !INT",
		"CREATE TABLE t (a INT NOT !UNIQUE", "CREATE TABLE t (a INT NOT !", "CREATE TABLE t (a INT !NULL", "CREATE TABLE t (a INT UNIQUE !NOT NULL", "CREATE TABLE t (a INT UNIQUE !UNIQUE",
		"CREATE TABLE t (a INT NOT NULL !NOT", "CREATE TABLE t (a INT !PRIMARY", "CREATE TABLE t (a INT,!)", "CREATE TABLE t (a INT,!", "CREATE TABLE t (a INT,!,", "CREATE TABLE t (a INT, !INT",
		"CREATE TABLE t (a INT, PRIMARY !(a))", "CREATE TABLE t (a INT, PRIMARY KEY !a", "CREATE TABLE t (a INT, PRIMARY KEY (!)", "CREATE TABLE t (a INT, PRIMARY KEY (!5", "CREATE TABLE t (a INT, PRIMARY KEY (a!,b",
		"CREATE TABLE t (a INT, PRIMARY KEY (a)!", "CREATE TABLE t (a INT, PRIMARY KEY (a)!, b INT", "CREATE TABLE t (a INT, PRIMARY KEY (a!.b", "CREATE TABLE t (a INT, PRIMARY KEY (a)) !)", "CREATE TABLE t (a INT, PRIMARY KEY (a)) !UNIQUE",
		"INSERT !t", "INSERT INTO !VALUES", "INSERT INTO t !(1)", "INSERT INTO t VALUES !", "INSERT INTO t VALUES !1", "INSERT INTO t VALUES (!)", "INSERT INTO t VALUES (!,", "INSERT INTO t VALUES (1!", "INSERT INTO t VALUES (1,!)",
		"INSERT INTO t VALUES (!a)", "INSERT INTO t VALUES (!(1))", "INSERT INTO t VALUES (1 !+ 1)", "INSERT INTO t VALUES (-!a)", "INSERT INTO t VALUES (- !- 1)", "INSERT INTO t VALUES (-!)", "INSERT INTO t VALUES (-!NULL)",
		"INSERT INTO t VALUES (-!'a')", "INSERT INTO t VALUES (!+1)", "INSERT INTO t VALUES (1) !(2)", "INSERT INTO t VALUES (1),!", "INSERT INTO t VALUES (1),!,(2)", "INSERT INTO t VALUES (1),!2", "INSERT INTO t VALUES (1) !WHERE", "INSERT INTO t VALUES (!NOT NULL)",
		"INSERT INTO t VALUES (1 !IS NULL)", "INSERT INTO t VALUES (1,!,2)", "INSERT INTO t VALUES (1 !2)",
		"UPDATE !SET", "UPDATE t !a = 1", "UPDATE t SET !", "UPDATE t SET !5 = 1", "UPDATE t SET a !1", "UPDATE t SET a !<> 1", "UPDATE t SET a!.b = 1", "UPDATE t SET a = !", "UPDATE t SET a = !, b = 1", "UPDATE t SET a = 1,!",
		"UPDATE t SET a = 1, !WHERE b", "UPDATE t SET a = 1 !b = 1", "UPDATE t SET a = 1 WHERE !", "UPDATE t SET a = 1 WHERE b !WHERE c", "UPDATE t SET a = b = c != d", "UPDATE t SET !*", "UPDATE t SET a = !*", "UPDATE t SET a = !COUNT(*)", "UPDATE t SET a = 1 WHERE b!, c = 1",
		"DELETE !t", "DELETE FROM !", "DELETE FROM !WHERE", "DELETE FROM t !a", "DELETE FROM t WHERE !", "DELETE FROM t WHERE a !b", "DELETE FROM t WHERE !;", "DELETE !* FROM t", "DELETE FROM t!, u",
	} {
		clean, at := marked(s)
		wantFault(t, clean, api.ErrForm, at)
	}
}

func TestFaultsOfSelects(t *testing.T) { // P9.1
	for _, s := range []string{
		"SELECT !", "SELECT !FROM t", "SELECT !, a FROM t", "SELECT a,!", "SELECT a, !FROM t", "SELECT a !b FROM t", "SELECT *!", "SELECT * !* FROM t", "SELECT * !+ 1 FROM t", "SELECT * !a FROM t", "SELECT a * !FROM t",
		"SELECT (!*) FROM t", "SELECT t.!* FROM t", "SELECT * FROM !", "SELECT * FROM !(t)", "SELECT * FROM t!, u", "SELECT * FROM t!.u", "SELECT * FROM t !u", "SELECT * !WHERE a",
		"SELECT COUNT !FROM t", "SELECT COUNT !* FROM t", "SELECT COUNT(!)", "SELECT COUNT(*!", "SELECT COUNT(* !* 5)", "SELECT COUNT(*!, a)", "SELECT COUNT(a!, b)", "SELECT COUNT(a!", "SELECT COUNT(*) !+ 1 FROM t", "SELECT COUNT(a) !+ 1 FROM t",
		"SELECT SUM(!*) FROM t", "SELECT MIN(!*) FROM t", "SELECT MAX(!*) FROM t", "SELECT SUM(!) FROM t", "SELECT SUM !a FROM t", "SELECT 1 + !COUNT(*) FROM t", "SELECT COUNT(!COUNT(*)) FROM t", "SELECT -!SUM(a) FROM t", "SELECT (!MAX(a)) FROM t", "SELECT COUNT(!SUM(a))",
		"SELECT * FROM t JOIN !", "SELECT * FROM t JOIN !ON a", "SELECT * FROM t JOIN u !WHERE a", "SELECT * FROM t JOIN u!", "SELECT * FROM t JOIN u ON !", "SELECT * FROM t JOIN u ON !WHERE", "SELECT * FROM t !ON a", "SELECT * FROM t JOIN u ON a !ON b", "SELECT * FROM t JOIN u ON a !JOIN v ON b",
		"SELECT * FROM t WHERE !", "SELECT * FROM t WHERE !*", "SELECT * FROM t WHERE a !b", "SELECT * FROM t WHERE !GROUP BY a", "SELECT * FROM t WHERE a!, b", "SELECT * FROM t WHERE !SUM(a)",
		"SELECT * FROM t GROUP !a", "SELECT * FROM t GROUP BY !", "SELECT * FROM t GROUP BY !5", "SELECT * FROM t GROUP BY !(a)", "SELECT * FROM t GROUP BY a !+ b", "SELECT * FROM t GROUP BY a!, b", "SELECT * FROM t GROUP BY a.!5", "SELECT * FROM t GROUP BY a !DESC", "SELECT * FROM t GROUP BY a.b!.c", "SELECT * FROM t !BY a",
		"SELECT * FROM t ORDER !a", "SELECT * FROM t ORDER BY !", "SELECT * FROM t ORDER BY !DESC", "SELECT * FROM t ORDER BY a!, b", "SELECT * FROM t ORDER BY a DESC !DESC", "SELECT * FROM t ORDER BY !-a", "SELECT * FROM t ORDER BY a DESC!, b", "SELECT * FROM t ORDER BY a !b",
		"SELECT * FROM t LIMIT !", "SELECT * FROM t LIMIT !-1", "SELECT * FROM t LIMIT !a", "SELECT * FROM t LIMIT !(1)", "SELECT * FROM t LIMIT !NULL", "SELECT * FROM t LIMIT 1 !+ 1", "SELECT * FROM t LIMIT 1 !2", "SELECT * FROM t LIMIT !'1'", "SELECT * FROM t LIMIT 1!, 2",
	} {
		clean, at := marked(s)
		wantFault(t, clean, api.ErrForm, at)
	}
}

func TestOfScripts(t *testing.T) { // P9.1
	drop := func(table string) api.Statement { return api.Statement{Kind: api.StDrop, Table: table, Limit: -1} }
	wantScript(t, "DROP TABLE t;DROP TABLE u ; DROP TABLE t", drop("t"), drop("u"), drop("t"))
	wantScript(t, " -- x\n\tDROP\r\nTABLE -- ;\nt -- ;", drop("t"))
	wantScript(t, "SELECT a FROM t WHERE ';' ; DROP TABLE t", api.Statement{Kind: api.StSelect, Table: "t", Items: items(item(col("a"))), Where: exprs(val(text(";"))), Limit: -1}, drop("t"))
}

func TestFaultsOfTokens(t *testing.T) { // P9.1, P9.2
	// What lex tells is told, also where something is wrong ahead of it.
	for _, s := range []string{"!", "SELEC", "DROP t 1a", "; 'a", "a a 9223372036854775808", "(((((((((((((a b 'x", "SELECT aaaaaaaaaaaaaaaaa", "'" + strings.Repeat("a", 41) + "'", strings.Repeat(" ", 2001), "DROP TABLE t;" + strings.Repeat(" ", 2000), "- 9223372036854775808", "\x00", "a B"} {
		_, want := lex.Tokens(s)
		if want.Code == api.OK {
			t.Fatalf("%q has no fault", s)
		}
		wantFault(t, s, want.Code, want.At)
		wantFaultOfOne(t, s, want.Code, want.At)
	}
	wantFault(t, strings.Repeat(";", 2001), api.ErrLong, -1)
	wantFaultOfOne(t, strings.Repeat("(", 2001), api.ErrLong, -1)
	wantFaultOfOne(t, strings.Repeat(" ", 2000), api.ErrForm, 2000)
	wantOne(t, strings.Repeat(" ", 1999)+"a", col("a"))
}

// listCase is a list in a script: what stands ahead of it, one of it, what stands between two, what may follow.
type listCase struct {
	most                     int
	ahead, one, comma, close string
}

var lists = []listCase{
	{8, "", "DROP TABLE t", ";", ""},
	{8, "", "SELECT * FROM t WHERE a", ";", ""},
	{8, "CREATE TABLE t (", "a INT NOT NULL UNIQUE", ",", ", PRIMARY KEY (a))"},
	{8, "UPDATE t SET ", "a = (1)", ",", " WHERE b"},
	{8, "UPDATE t SET ", "a = 1", ",", ""},
	{8, "SELECT ", "*", ",", " FROM t"},
	{8, "SELECT ", "COUNT(*)", ",", " FROM t"},
	{8, "DROP TABLE t; SELECT ", "(a) + 1", ",", " FROM t"},
	{16, "INSERT INTO t VALUES ", "(1, 'a')", ",", ""},
	{8, "INSERT INTO t VALUES (", "-5", ",", ")"},
	{8, "INSERT INTO t VALUES (1), (", "NULL", ",", "), (2)"},
}

func TestOfLists(t *testing.T) { // P9.1
	wrong := []string{"", "5", ")", "(", ",", ";", "FROM", "WHERE", "KEY", "NULL", "a", "'a'", "*", "-", "COUNT", "SELECT"}
	for _, c := range lists {
		for size := 1; size <= 2*c.most; size++ {
			open := c.ahead + strings.Repeat(c.one+c.comma, size-1)
			s := open + c.one + c.close
			if size <= c.most {
				if _, f := parse.Script(s); f != (api.Fault{}) {
					t.Errorf("Script(%q): %v", s, f)
				}
				continue
			}
			first := len(c.ahead) + c.most*len(c.one+c.comma)
			wantFault(t, s, api.ErrLong, first)
			// A fault of the first one too many is told behind its number.
			wantFault(t, s+" a a", api.ErrLong, first)
		}
		full := c.ahead + strings.Repeat(c.one+c.comma, c.most)
		for _, w := range wrong {
			wantFault(t, full+w, api.ErrLong, len(full))
			wantFault(t, full+" -- x\n"+w, api.ErrLong, len(full)+6)
		}
		for size := range c.most {
			open := c.ahead + strings.Repeat(c.one+c.comma, size)
			wantFault(t, open, api.ErrForm, len(open))
			wantFault(t, open+"KEY", api.ErrForm, len(open))
			wantFault(t, open+",", api.ErrForm, len(open))
		}
	}
}

func TestListsAreCountedApart(t *testing.T) { // P9.1
	eight := func(one string) string { return one + strings.Repeat(","+one, 7) }
	s := "INSERT INTO t VALUES " + strings.Repeat("("+eight("1")+"),", 15) + "(" + eight("NULL") + ")"
	l, f := parse.Script(s + ";" + s)
	if f.Code != api.OK || len(l) != 2 || len(l[1].Rows) != 16 || len(l[1].Rows[15]) != 8 {
		t.Errorf("two full inserts: %v", f)
	}
	s = strings.Repeat("SELECT "+eight("COUNT(*)")+" FROM t;", 7) + "UPDATE t SET " + eight("a=1")
	if l, f := parse.Script(s); f.Code != api.OK || len(l) != 8 || len(l[6].Items) != 8 || len(l[7].Sets) != 8 {
		t.Errorf("eight full states: %v", f)
	}
	wantFault(t, s+",", api.ErrLong, len(s)+1)
	wantFault(t, s+";", api.ErrLong, len(s)+1)
	// The ninth literal of the seventeenth row is behind the row's own first token.
	rows := "INSERT INTO t VALUES " + strings.Repeat("(1),", 16)
	wantFault(t, rows+"("+eight("1")+",1)", api.ErrLong, len(rows))
}

// deepens are what makes one deeper what stands behind it, and what closes that.
var deepens = []struct{ open, close string }{{"(", ")"}, {"- ", ""}, {"NOT ", ""}}

// nested is a source in which the tokens of inner stand at a depth, and how many bytes stand ahead of them.
func nested(depth int, pick func(i int) int, inner string) (string, int) {
	var open, close string
	for i := range depth {
		d := deepens[pick(i)]
		open += d.open
		close = d.close + close
	}
	return open + inner + close, len(open)
}

func TestDepth(t *testing.T) { // P9.1, P9.2
	picks := map[string]func(i int) int{
		"brackets": func(int) int { return 0 }, "signs": func(int) int { return 1 }, "words": func(int) int { return 2 },
		"both": func(i int) int { return i % 2 }, "brackets in words": func(i int) int { return 2 * (i % 2) },
		"signs in words": func(i int) int { return 2 - min(1, i/4) }, "one bracket": func(i int) int { return min(1, i) },
	}
	for what, pick := range picks {
		_, first := nested(11, pick, "")
		for depth := range 14 {
			for _, inner := range []string{"a", "a.b", "NULL", "'a'", "- 5"} {
				s, _ := nested(depth, pick, inner)
				if depth > 10 {
					wantFaultOfOne(t, s, api.ErrNest, first)
				} else if _, f := parse.One(s); f != (api.Fault{}) {
					t.Errorf("%s: One(%q): %v", what, s, f)
				}
			}
			for _, outer := range []string{"SELECT %, 1 FROM t", "SELECT COUNT(%), MAX(%) FROM t", "SELECT * FROM t JOIN u ON % WHERE % ORDER BY a", "UPDATE t SET a = %, b = % WHERE %", "DELETE FROM t WHERE %"} {
				s, _ := nested(depth, pick, "a")
				source := strings.ReplaceAll(outer, "%", s)
				if depth > 10 {
					wantFault(t, source, api.ErrNest, strings.Index(outer, "%")+first)
				} else if _, f := parse.Script(source); f != (api.Fault{}) {
					t.Errorf("%s: Script(%q): %v", what, source, f)
				}
			}
		}
		// Whatever stands there stands too deep, the end too.
		s, _ := nested(11, pick, "")
		for _, other := range []string{"", ")", "=", "FROM", ";", "*", "NOT", "("} {
			wantFaultOfOne(t, s[:first]+other, api.ErrNest, first)
		}
	}
}

func TestDepthIsLeftAgain(t *testing.T) { // P9.1, P9.2
	ten := strings.Repeat("(", 10) + "a" + strings.Repeat(")", 10)
	for _, s := range []string{
		ten + " + " + ten, ten + " = " + ten + " AND " + ten + " OR " + ten, ten + " IS NOT NULL", "NOT (a) AND " + ten,
		strings.Repeat("(", 10) + "a IS NOT NULL" + strings.Repeat(")", 10), strings.Repeat("NOT ", 10) + "a IS NOT NULL AND " + strings.Repeat("- ", 10) + "a",
		strings.Repeat("NOT ", 10) + "a = -5", strings.Repeat("- ", 11) + "5", "- - -a * " + strings.Repeat("- ", 10) + "a",
		strings.Repeat("(", 10) + "a + b * c = d AND e OR f" + strings.Repeat(")", 10), strings.Repeat("(NOT - ", 3) + "(a)" + strings.Repeat(")", 3),
	} {
		if _, f := parse.One(s); f != (api.Fault{}) {
			t.Errorf("One(%q): %v", s, f)
		}
	}
	for _, s := range []string{
		strings.Repeat("NOT ", 10) + "a = -!a", strings.Repeat("NOT ", 10) + "(!a)", strings.Repeat("- ", 10) + "(!a)", strings.Repeat("- ", 11) + "!a", strings.Repeat("- ", 11) + "!- 5",
		strings.Repeat("NOT ", 10) + "a + b = c * (!d)", ten + " + (" + strings.Repeat("(", 10) + "!a", strings.Repeat("(", 10) + "a + -!b", strings.Repeat("(", 10) + "a AND NOT !b",
	} {
		clean, at := marked(s)
		wantFaultOfOne(t, clean, api.ErrNest, at)
	}
	// What is wrong ahead is told ahead.
	wantFaultOfOne(t, "a a"+strings.Repeat("(", 11)+"a", api.ErrForm, 2)
	wantFaultOfOne(t, strings.Repeat("(", 10)+")", api.ErrForm, 10)
	wantFault(t, "SELECT "+strings.Repeat("(", 11)+"a"+strings.Repeat(",a", 9), api.ErrNest, 18)
	wantFault(t, "SELECT "+strings.Repeat("a,", 8)+strings.Repeat("(", 11)+"a", api.ErrLong, 23)
	wantFaultOfOne(t, strings.Repeat("(", 2000), api.ErrNest, 11)
	wantFaultOfOne(t, strings.Repeat("- ", 1000), api.ErrNest, 22)
	wantFaultOfOne(t, strings.Repeat("NOT ", 500), api.ErrNest, 44)
}
