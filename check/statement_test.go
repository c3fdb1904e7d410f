package check_test

import (
	"reflect"
	"slices"
	"strings"
	"testing"

	"vestry/api"
	"vestry/catalog"
	"vestry/check"
	"vestry/parse"
)

// Tables with up to as many columns as there may be, beside those of the examples.
const wideScope = exampleScope + "; CREATE TABLE w (a INT, b TEXT, c INT, d TEXT, e INT, f TEXT, g INT, h TEXT, PRIMARY KEY (b)); CREATE TABLE x (p INT, q TEXT, r INT, o INT, PRIMARY KEY (p)); CREATE TABLE y (z INT, PRIMARY KEY (z)); CREATE TABLE v (k TEXT, n TEXT, PRIMARY KEY (k))"

func wantStatement(t *testing.T, c *catalog.Catalog, want api.Errno, s api.Statement) {
	t.Helper()
	if e := check.Statement(c, s); e != want {
		t.Errorf("Statement(%+v): %d, not %d", s, e, want)
	}
	holdStatement(t, c, s)
}

// wantAll holds what is wrong with each of some sources.
func wantAll(t *testing.T, want api.Errno, sources ...string) {
	t.Helper()
	c := catalogOf(t, wideScope)
	for _, source := range sources {
		for _, s := range statements(t, source) {
			if e := check.Statement(c, s); e != want {
				t.Errorf("%q: %d, not %d", source, e, want)
			}
			holdStatement(t, c, s)
		}
	}
}

func TestCreate(t *testing.T) { // P12.2
	wantAll(t, api.OK, "CREATE TABLE z (a INT, PRIMARY KEY (a))", "CREATE TABLE z (a INT, b TEXT NOT NULL UNIQUE, t INT, PRIMARY KEY (b))", "CREATE TABLE id (id INT, PRIMARY KEY (id))")
	wantAll(t, api.ErrDouble, "CREATE TABLE t (a INT, PRIMARY KEY (a))", "CREATE TABLE u (id INT, k TEXT, PRIMARY KEY (id))", "CREATE TABLE z (a INT, a TEXT, PRIMARY KEY (a))", "CREATE TABLE z (a INT, b INT, a INT, PRIMARY KEY (c))", "CREATE TABLE t (a INT, a TEXT, PRIMARY KEY (c))")
	// Make's error is told ahead of a table that is there.
	wantAll(t, api.ErrColumn, "CREATE TABLE z (a INT, PRIMARY KEY (b))", "CREATE TABLE t (a INT, PRIMARY KEY (b))", "CREATE TABLE z (a INT, b INT, PRIMARY KEY (z))")
}

func TestCreateInAFullCatalog(t *testing.T) { // P12.2
	c := catalogOf(t, wideScope)
	if len(c.All()) != api.MaxTables {
		t.Fatalf("%d tables", len(c.All()))
	}
	wantStatement(t, c, api.OK, statements(t, "CREATE TABLE z (a INT, PRIMARY KEY (a))")[0])
}

func TestNoSuchTable(t *testing.T) { // P12.2
	wantAll(t, api.ErrTable,
		"DROP TABLE z", "INSERT INTO z VALUES (1)", "UPDATE z SET a = 1", "DELETE FROM z", "SELECT * FROM z", "SELECT n FROM n",
		// It is told ahead of all that is within.
		"INSERT INTO z VALUES (1), (1, 2), ('a')", "UPDATE z SET zz = 1, zz = 'a' + 1 WHERE 'a'", "DELETE FROM z WHERE 'a'", "DELETE FROM z WHERE - 'a'",
		"SELECT zz, *, COUNT(*) FROM z JOIN z ON 'a' WHERE 'a' GROUP BY zz ORDER BY y", "SELECT n FROM z JOIN t ON 1", "SELECT n FROM t JOIN z ON 1",
		"SELECT zz FROM t JOIN z ON zz WHERE zz GROUP BY zz ORDER BY zz", "SELECT * FROM id")
	empty := catalog.New()
	for _, source := range []string{"DROP TABLE t", "INSERT INTO t VALUES (1)", "UPDATE t SET a = 1", "DELETE FROM t", "SELECT * FROM t", "SELECT * FROM t JOIN t ON 1"} {
		wantStatement(t, empty, api.ErrTable, statements(t, source)[0])
	}
}

func TestTablesComeAndGo(t *testing.T) { // P12.2, W2
	c := catalogOf(t, exampleScope)
	s := statements(t, "SELECT n FROM t; CREATE TABLE t (n TEXT, PRIMARY KEY (n)); UPDATE t SET n = 'a'")
	for i, want := range []api.Errno{api.OK, api.ErrDouble, api.ErrType} {
		wantStatement(t, c, want, s[i])
	}
	c.Drop("t")
	for i, want := range []api.Errno{api.ErrTable, api.OK, api.ErrTable} {
		wantStatement(t, c, want, s[i])
	}
	x, _ := catalog.Make(s[1])
	c.Add(x)
	for i, want := range []api.Errno{api.OK, api.ErrDouble, api.OK} {
		wantStatement(t, c, want, s[i])
	}
}

func TestDrop(t *testing.T) { // P12.2
	wantAll(t, api.OK, "DROP TABLE t; DROP TABLE u; DROP TABLE w")
}

func TestInsert(t *testing.T) { // P12.2
	// Nulls are of each column's kind here, also of the primary one.
	wantAll(t, api.OK, "INSERT INTO t VALUES (1, 2, 'a')", "INSERT INTO t VALUES (-1, 0, ''), (NULL, NULL, NULL), (1, NULL, 'a'), (1, 1, NULL)", "INSERT INTO y VALUES (1)",
		"INSERT INTO w VALUES (1, 'a', 2, 'b', 3, 'c', 4, 'd'), (NULL, 'a', NULL, 'b', NULL, 'c', NULL, 'd')", "INSERT INTO t VALUES (1, 1, 'a'), (1, 1, 'a')")
	wantAll(t, api.ErrCount, "INSERT INTO t VALUES (1)", "INSERT INTO t VALUES (1, 2)", "INSERT INTO t VALUES (1, 2, 'a', 3)", "INSERT INTO t VALUES (1, 2, 'a'), (1, 2)",
		"INSERT INTO y VALUES (NULL, NULL)", "INSERT INTO w VALUES (1, 'a', 2, 'b', 3, 'c', 4)",
		// Of one row it is told ahead of the kinds; of rows the first one counts.
		"INSERT INTO t VALUES ('a')", "INSERT INTO t VALUES ('a', 'b', 1, 1)", "INSERT INTO t VALUES ('a', 'b')", "INSERT INTO t VALUES (1, 2, 'a'), (1), (1, 'a', 2)")
	wantAll(t, api.ErrType, "INSERT INTO t VALUES ('a', 2, 'a')", "INSERT INTO t VALUES (1, 'a', 'a')", "INSERT INTO t VALUES (1, 2, 3)", "INSERT INTO t VALUES (NULL, NULL, 0)",
		"INSERT INTO t VALUES (1, 2, 'a'), (1, 2, 3), (1)", "INSERT INTO t VALUES ('1', 2, 'a'), (1)", "INSERT INTO y VALUES ('')", "INSERT INTO w VALUES (1, 'a', 2, 'b', 3, 'c', 4, 5)")
}

func TestInsertOfManyRows(t *testing.T) { // P12.2
	c := catalogOf(t, wideScope)
	long := api.Value{Kind: api.KindText, Text: strings.Repeat("x", api.MaxText)}
	row := []api.Value{{}, long, {}, long, {}, long, {}, long}
	s := api.Statement{Kind: api.StInsert, Table: "w", Rows: slices.Repeat([][]api.Value{row}, api.MaxRows), Limit: -1}
	// Too long a source is no matter here.
	wantStatement(t, c, api.OK, s)
	for at := range s.Rows {
		for i := range row {
			other := s
			other.Rows = slices.Clone(s.Rows)
			other.Rows[at] = slices.Clone(row)
			other.Rows[at][i] = pickOther(row[i])
			want := api.ErrType
			wantStatement(t, c, want, other)
			other.Rows[at] = row[:i]
			if want = api.ErrCount; i == 0 {
				want = api.ErrForm
			}
			wantStatement(t, c, want, other)
		}
	}
	s.Rows = append(s.Rows, row)
	wantStatement(t, c, api.ErrForm, s)
}

// pickOther is a value of the other kind than that of a column of w whose values are null or texts.
func pickOther(v api.Value) api.Value {
	if v.Kind == api.KindText {
		return api.Value{Kind: api.KindNum, Num: 1}
	}
	return api.Value{Kind: api.KindText, Text: "a"}
}

func TestUpdate(t *testing.T) { // P12.2
	wantAll(t, api.OK, "UPDATE t SET n = 1", "UPDATE t SET s = 'a', n = n + t.id, id = 1 = 2 WHERE n", "UPDATE t SET s = NULL, n = NULL, id = NULL WHERE NULL", "UPDATE t SET n = id, id = n, s = t.s",
		"UPDATE t SET n = s IS NULL", "UPDATE t SET n = NOT NULL WHERE s IS NULL", "UPDATE w SET a = c, b = d, c = e, d = f, e = g, f = h, g = a, h = b", "UPDATE v SET n = k")
	wantAll(t, api.ErrColumn, "UPDATE t SET zz = 1", "UPDATE t SET k = 'a'", "UPDATE t SET t = 1", "UPDATE t SET n = 1, zz = 2", "UPDATE t SET n = zz", "UPDATE t SET n = u.id", "UPDATE t SET n = k",
		"UPDATE t SET n = 1 WHERE zz", "UPDATE t SET n = 1 WHERE u.id = 1", "UPDATE t SET n = 1 WHERE k = 'a'",
		// Set by set, each in its order, then Where.
		"UPDATE t SET zz = 1, n = 1, n = 2", "UPDATE t SET zz = 's' + 1", "UPDATE t SET zz = 1, zz = 2", "UPDATE t SET zz = 1, n = 's'", "UPDATE t SET n = zz + 's'", "UPDATE t SET n = zz, n = 1", "UPDATE t SET n = zz, s = 1",
		"UPDATE t SET n = 1, s = s, zz = 1 WHERE 's'", "UPDATE t SET n = 1 WHERE zz + 's'")
	wantAll(t, api.ErrDouble, "UPDATE t SET n = 1, n = 2", "UPDATE t SET n = 1, s = 'a', n = 1", "UPDATE t SET n = 1, n = zz", "UPDATE t SET n = 1, n = 's'", "UPDATE t SET n = 1, n = 's' + 1", "UPDATE t SET n = 1, n = 2, zz = 3",
		"UPDATE t SET s = 'a', id = 1, s = 1 WHERE zz", "UPDATE t SET s = 'a', n = 1, n = 1, s = 'a', zz = 1 WHERE 'a'")
	wantAll(t, api.ErrType, "UPDATE t SET n = 'a'", "UPDATE t SET s = 1", "UPDATE t SET n = s", "UPDATE t SET s = n", "UPDATE t SET s = s IS NULL", "UPDATE t SET s = NOT NULL", "UPDATE t SET s = s = s", "UPDATE t SET s = NULL + NULL",
		"UPDATE t SET n = n + s", "UPDATE t SET n = 'a', n = 1", "UPDATE t SET n = 'a', zz = 1", "UPDATE t SET n = 'a' + 1 WHERE zz", "UPDATE t SET s = 1 WHERE zz", "UPDATE t SET n = 1 WHERE s", "UPDATE t SET n = 1 WHERE 'a'", "UPDATE t SET n = 1 WHERE s + 1 = zz", "UPDATE v SET n = 1")
}

func TestDelete(t *testing.T) { // P12.2
	wantAll(t, api.OK, "DELETE FROM t", "DELETE FROM t WHERE 1", "DELETE FROM t WHERE NULL", "DELETE FROM t WHERE n", "DELETE FROM t WHERE t.n = id AND s = 'a'", "DELETE FROM t WHERE s IS NULL", "DELETE FROM u WHERE k = NULL")
	wantAll(t, api.ErrType, "DELETE FROM t WHERE 'a'", "DELETE FROM t WHERE s", "DELETE FROM t WHERE t.s", "DELETE FROM t WHERE s AND n", "DELETE FROM t WHERE s = n", "DELETE FROM t WHERE - s = zz")
	wantAll(t, api.ErrColumn, "DELETE FROM t WHERE k", "DELETE FROM t WHERE u.id", "DELETE FROM t WHERE zz = s + 1", "DELETE FROM t WHERE u.k")
}

func TestSelect(t *testing.T) { // P12.2
	wantAll(t, api.OK, "SELECT * FROM t", "SELECT n FROM t", "SELECT n, s, t.id, 1, NULL, 'a', n + 1, s = 'a' FROM t", "SELECT s FROM t WHERE n", "SELECT s FROM t WHERE NULL ORDER BY s DESC LIMIT 0",
		"SELECT n FROM t ORDER BY id", "SELECT 'a' FROM t", "SELECT n, n FROM t ORDER BY t.s")
	wantAll(t, api.ErrColumn, "SELECT zz FROM t", "SELECT u.id FROM t", "SELECT n FROM t WHERE zz", "SELECT n FROM t WHERE u.id", "SELECT n FROM t ORDER BY zz", "SELECT n FROM t ORDER BY u.id", "SELECT n, k FROM t", "SELECT t FROM t")
	wantAll(t, api.ErrType, "SELECT n + s FROM t", "SELECT n FROM t WHERE s", "SELECT n FROM t WHERE 'a'", "SELECT n, - s FROM t", "SELECT n FROM t WHERE s + 1")
}

func TestSelectOfTwo(t *testing.T) { // P12.2
	wantAll(t, api.OK, "SELECT * FROM t JOIN u ON t.id = u.id", "SELECT t.id, u.id, n, s, k FROM t JOIN u ON 1 WHERE s = k ORDER BY u.id", "SELECT u.id FROM t JOIN u ON NULL", "SELECT k FROM u JOIN t ON n", "SELECT t.id FROM u JOIN t ON 1 ORDER BY k DESC")
	wantAll(t, api.ErrTable, "SELECT n FROM t JOIN z ON 1", "SELECT zz FROM t JOIN z ON 's'", "SELECT n FROM t JOIN n ON 1")
	wantAll(t, api.ErrDouble, "SELECT n FROM t JOIN t ON 1", "SELECT zz FROM t JOIN t ON 's' WHERE 's' GROUP BY zz ORDER BY zz", "SELECT *, COUNT(*) FROM t JOIN t ON zz",
		"SELECT id FROM t JOIN u ON 1", "SELECT n FROM t JOIN u ON id = 1", "SELECT n FROM t JOIN u ON 1 WHERE id", "SELECT n FROM t JOIN u ON 1 ORDER BY id", "SELECT COUNT(*) FROM t JOIN u ON 1 GROUP BY id", "SELECT COUNT(id) FROM t JOIN u ON 1")
	wantAll(t, api.ErrType, "SELECT n FROM t JOIN u ON 'a'", "SELECT n FROM t JOIN u ON k", "SELECT n FROM t JOIN u ON s + 1", "SELECT n FROM t JOIN u ON 1 WHERE k", "SELECT n FROM t JOIN u ON n = k", "SELECT n + k FROM t JOIN u ON 1",
		// n is a text in v, so what is meant tells on the scope.
		"SELECT SUM(n) FROM v", "SELECT SUM(v.n) FROM t JOIN v ON 1", "SELECT t.n + v.n FROM t JOIN v ON 1")
	wantAll(t, api.ErrColumn, "SELECT v.n FROM t JOIN u ON 1", "SELECT n FROM t JOIN u ON v.n", "SELECT n FROM t JOIN u ON 1 WHERE zz", "SELECT n FROM t JOIN u ON 1 ORDER BY t.k")
}

func TestGrouped(t *testing.T) { // P12.2
	wantAll(t, api.OK, "SELECT COUNT(*) FROM t", "SELECT COUNT(n), SUM(n), MIN(n), MAX(n), COUNT(s), MIN(s), MAX(s), COUNT(*) FROM t", "SELECT n, COUNT(*) FROM t GROUP BY n", "SELECT n FROM t GROUP BY n", "SELECT t.n, n FROM t GROUP BY n",
		"SELECT n FROM t GROUP BY t.n ORDER BY n DESC", "SELECT t.n FROM t GROUP BY n ORDER BY t.n", "SELECT s, SUM(n + id) FROM t GROUP BY s ORDER BY s", "SELECT MAX('a'), SUM(NULL), SUM(s IS NULL), SUM(1), COUNT(NULL) FROM t", "SELECT COUNT(*) FROM t GROUP BY n ORDER BY n",
		"SELECT u.id, SUM(t.id) FROM t JOIN u ON 1 GROUP BY u.id ORDER BY u.id", "SELECT k, u.k FROM t JOIN u ON 1 GROUP BY k", "SELECT SUM(n) FROM t WHERE n LIMIT 0")
	wantAll(t, api.ErrForm, "SELECT * FROM t GROUP BY n", "SELECT *, COUNT(*) FROM t", "SELECT COUNT(*), * FROM t", "SELECT n, COUNT(*) FROM t", "SELECT COUNT(*), n FROM t", "SELECT 1, SUM(n) FROM t", "SELECT NULL, MIN(n) FROM t",
		"SELECT id FROM t GROUP BY n", "SELECT n, id FROM t GROUP BY n", "SELECT n + 0 FROM t GROUP BY n", "SELECT 1 FROM t GROUP BY n", "SELECT - n FROM t GROUP BY n", "SELECT n IS NULL FROM t GROUP BY n", "SELECT 0 FROM t GROUP BY id", "SELECT 1 FROM t GROUP BY n", "SELECT 2 FROM t GROUP BY s",
		"SELECT t.id FROM t JOIN u ON 1 GROUP BY u.id", "SELECT COUNT(*) FROM t ORDER BY n", "SELECT COUNT(*) FROM t GROUP BY n ORDER BY s", "SELECT n FROM t GROUP BY n ORDER BY id", "SELECT u.id FROM t JOIN u ON 1 GROUP BY u.id ORDER BY t.id", "SELECT MAX(n) FROM t ORDER BY n DESC", "SELECT MAX(id), id FROM t", "SELECT MAX(id) FROM t ORDER BY id")
	wantAll(t, api.ErrType, "SELECT SUM(s) FROM t", "SELECT SUM('a') FROM t", "SELECT COUNT(*), SUM(s) FROM t", "SELECT s, SUM(s) FROM t GROUP BY s", "SELECT MIN(- s) FROM t", "SELECT COUNT(s + 1) FROM t", "SELECT SUM(k) FROM t JOIN u ON 1")
	wantAll(t, api.ErrColumn, "SELECT COUNT(zz) FROM t", "SELECT COUNT(*) FROM t GROUP BY zz", "SELECT MAX(u.id) FROM t", "SELECT n FROM t GROUP BY n ORDER BY zz", "SELECT COUNT(*) FROM t ORDER BY zz", "SELECT COUNT(*) FROM t GROUP BY u.k")
}

func TestSelectTellsTheFirstError(t *testing.T) { // P12.2, W4
	wantAll(t, api.ErrColumn,
		"SELECT id FROM t JOIN u ON zz WHERE 's'", "SELECT id FROM t JOIN u ON t.id WHERE zz", "SELECT s + 1 FROM t WHERE zz", "SELECT s + 1 FROM t GROUP BY zz", "SELECT SUM(s) FROM t GROUP BY zz", "SELECT * FROM t GROUP BY zz",
		"SELECT zz, s + 1 FROM t", "SELECT n, zz, * FROM t GROUP BY n", "SELECT zz FROM t GROUP BY n", "SELECT SUM(s + zz) FROM t", "SELECT SUM(zz), SUM(s) FROM t", "SELECT n, COUNT(zz) FROM t GROUP BY n ORDER BY s", "SELECT *, *, * FROM t ORDER BY zz", "SELECT zz, *, *, * FROM t", "SELECT MAX(n) FROM t ORDER BY zz")
	wantAll(t, api.ErrType,
		"SELECT id FROM t JOIN u ON s WHERE zz", "SELECT id FROM t JOIN u ON 1 WHERE s GROUP BY zz", "SELECT zz FROM t WHERE s", "SELECT * FROM t WHERE s GROUP BY zz", "SELECT s + 1, zz FROM t", "SELECT SUM(s), zz FROM t", "SELECT SUM(s), * FROM t", "SELECT SUM(s), n FROM t", "SELECT s + 1, COUNT(*) FROM t ORDER BY zz",
		"SELECT - s FROM t GROUP BY n", "SELECT SUM(s) FROM t ORDER BY zz", "SELECT *, *, *, - s FROM t", "SELECT n, SUM(s), id FROM t GROUP BY n")
	wantAll(t, api.ErrForm,
		"SELECT *, zz, COUNT(*) FROM t", "SELECT COUNT(*), n, zz FROM t", "SELECT n, SUM(s) FROM t", "SELECT n, id, SUM(s) FROM t GROUP BY n", "SELECT id FROM t GROUP BY n ORDER BY zz", "SELECT COUNT(*), * FROM t ORDER BY zz", "SELECT 1, SUM(s) FROM t", "SELECT *, SUM(s) FROM t")
	wantAll(t, api.ErrDouble, "SELECT zz FROM t JOIN u ON 1 WHERE id AND zz", "SELECT - s FROM t JOIN u ON 1 GROUP BY id", "SELECT id, zz FROM t JOIN u ON 1", "SELECT *, *, * FROM t JOIN u ON 1 ORDER BY id")
}

func TestColumnsOfWhatIsSelected(t *testing.T) { // P12.2
	wantAll(t, api.OK, "SELECT * FROM w", "SELECT *, * FROM t", "SELECT *, *, n, s FROM t", "SELECT n, *, s, * FROM t", "SELECT *, * FROM x", "SELECT *, *, *, *, *, *, *, * FROM y", "SELECT * FROM x JOIN t ON 1", "SELECT *, 1 FROM x JOIN t ON 1", "SELECT a, b, c, d, e, f, g, h FROM w", "SELECT *, 1, 2, 3 FROM t JOIN u ON 1", "SELECT 1, 2, 3, * FROM u JOIN t ON 1", "SELECT *, *, *, * FROM u")
	wantAll(t, api.ErrForm, "SELECT *, 1 FROM w", "SELECT 1, * FROM w", "SELECT *, * FROM w", "SELECT *, *, * FROM t", "SELECT *, *, 1, 2, 3 FROM t", "SELECT *, *, 1 FROM x", "SELECT *, 1, 2 FROM x JOIN t ON 1", "SELECT * FROM w JOIN y ON 1", "SELECT * FROM y JOIN w ON 1", "SELECT *, * FROM t JOIN u ON 1", "SELECT *, * FROM x JOIN y ON 1", "SELECT *, *, *, *, 1 FROM u", "SELECT *, 1, 2, 3, 4 FROM t JOIN u ON 1")
	// What is grouped has as many as it has items.
	wantAll(t, api.OK, "SELECT n, n, n, n, n, n, n, n FROM t GROUP BY n", "SELECT COUNT(*), COUNT(*), COUNT(*), COUNT(*), COUNT(*), COUNT(*), COUNT(*), COUNT(*) FROM w JOIN x ON 1")
}

// rightStatements are of each kind, with all that it names.
func rightStatements(t *testing.T) []api.Statement {
	t.Helper()
	return statements(t, "CREATE TABLE z (a INT, b TEXT, PRIMARY KEY (a)); DROP TABLE t; INSERT INTO t VALUES (1, 2, 'a'), (2, NULL, NULL); UPDATE t SET n = 1, s = 'a' WHERE n; DELETE FROM t WHERE n; SELECT n, COUNT(*), SUM(t.id) FROM t JOIN u ON 1 WHERE s = k GROUP BY n ORDER BY n DESC LIMIT 3; SELECT *, n FROM t")
}

func TestStatementsThatAreNotRight(t *testing.T) { // P12.2
	c := catalogOf(t, wideScope)
	wantStatement(t, c, api.ErrForm, api.Statement{})
	for _, s := range rightStatements(t) {
		wantStatement(t, c, api.OK, s)
		for _, kind := range []int{api.MinInt, -1, 0, 7, 1 << 32, api.MaxInt} {
			other := s
			other.Kind = kind
			wantStatement(t, c, api.ErrForm, other)
		}
		for _, name := range []string{"", "T", "5", "t ", "a b", strings.Repeat("t", 17)} {
			other := s
			other.Table = name
			wantStatement(t, c, api.ErrForm, other)
		}
		for _, limit := range []int{api.MinInt, -2, 0, api.MaxInt} {
			other := s
			other.Limit = limit
			holdStatement(t, c, other)
			if s.Kind != api.StSelect || limit < 0 {
				wantStatement(t, c, api.ErrForm, other)
			}
		}
		// What a kind does not name is zero; what it names is there.
		for _, with := range rightStatements(t) {
			v := reflect.ValueOf(with)
			for i := range v.NumField() {
				other := s
				reflect.ValueOf(&other).Elem().Field(i).Set(v.Field(i))
				holdStatement(t, c, other)
				reflect.ValueOf(&other).Elem().Field(i).SetZero()
				holdStatement(t, c, other)
			}
		}
	}
}

func TestPartsThatAreNotRight(t *testing.T) { // P12.2
	c := catalogOf(t, wideScope)
	l := rightStatements(t)
	insert, update, remove, selects := l[2], l[3], l[4], l[5]
	for _, e := range wrongExprs() {
		one := []api.Expr{e}
		for _, table := range []string{"t", "zz"} {
			s := update
			s.Table, s.Where = table, one
			wantStatement(t, c, api.ErrForm, s)
			s = update
			s.Table, s.Sets = table, []api.Set{{Name: "zz", Expr: num(1)}, {Name: "n", Expr: e}}
			wantStatement(t, c, api.ErrForm, s)
			s = remove
			s.Table, s.Where = table, one
			wantStatement(t, c, api.ErrForm, s)
			for i := range 5 {
				s = selects
				s.Table = table
				switch i {
				case 0:
					s.On = one
				case 1:
					s.Where = one
				case 2:
					s.Group = one
				case 3:
					s.Order = one
				case 4:
					s.Items = []api.Item{{Kind: api.ItemExpr, Args: []api.Expr{name("zz")}}, {Kind: api.ItemMax, Args: one}}
				}
				wantStatement(t, c, api.ErrForm, s)
			}
		}
		if e.Kind == api.ExprValue && zeroBut(e, "Kind", "Value") {
			s := insert
			s.Rows = [][]api.Value{{{}}, {{}, {}, e.Value}}
			wantStatement(t, c, api.ErrForm, s)
		}
	}
	// Group and Order are columns.
	for _, e := range []api.Expr{num(1), neg(name("n")), isnt(name("n"))} {
		s := selects
		s.Group = []api.Expr{e}
		wantStatement(t, c, api.ErrForm, s)
		s = selects
		s.Order = []api.Expr{e}
		wantStatement(t, c, api.ErrForm, s)
	}
	for _, i := range []api.Item{{}, {Kind: 8}, {Kind: -1}, {Kind: api.ItemAll, Args: []api.Expr{num(1)}}, {Kind: api.ItemRows, Args: []api.Expr{name("n")}}, {Kind: api.ItemExpr}, {Kind: api.ItemSum}, {Kind: api.ItemMin, Args: []api.Expr{num(1), num(1)}}} {
		s := selects
		s.Items = append(slices.Clone(s.Items), i)
		wantStatement(t, c, api.ErrForm, s)
	}
	s := selects
	s.Items = slices.Repeat(s.Items[:1], 8)
	wantStatement(t, c, api.OK, s)
	s.Items = slices.Repeat(s.Items[:1], 9)
	wantStatement(t, c, api.ErrForm, s)
	s = update
	s.Sets = slices.Repeat(s.Sets[:1], 8)
	wantStatement(t, c, api.ErrDouble, s)
	s.Sets = slices.Repeat(s.Sets[:1], 9)
	wantStatement(t, c, api.ErrForm, s)
}

func TestStatementsTooDeepToBeWritten(t *testing.T) { // P12.2
	c := catalogOf(t, wideScope)
	deep, wrong := name("n"), name("s")
	for range 500 {
		deep, wrong = not(deep), not(wrong)
	}
	for _, e := range []api.Expr{deep, wrong} {
		_, _, want := check.Bind(tablesOf(t, exampleScope), e)
		one := []api.Expr{e}
		l := rightStatements(t)
		update, remove, selects := l[3], l[4], l[5]
		remove.Where, selects.On = one, one
		update.Sets = []api.Set{{Name: "n", Expr: e}}
		for _, s := range []api.Statement{update, remove, selects} {
			wantStatement(t, c, want, s)
		}
		selects = l[5]
		selects.Items = append(selects.Items, api.Item{Kind: api.ItemSum, Args: one})
		wantStatement(t, c, want, selects)
	}
}

func TestRandomStatements(t *testing.T) { // P12.2
	m := newMaker(5)
	type seenAt struct {
		kind int
		e    api.Errno
	}
	seen := map[seenAt]int{}
	for range 20000 {
		c := m.catalog()
		before := c.All()
		for range 5 {
			s := m.statement(c)
			seen[seenAt{s.Kind, holdStatement(t, c, s)}]++
		}
		if !reflect.DeepEqual(c.All(), before) {
			t.Fatal("the catalog has changed")
		}
	}
	for kind, l := range [][]api.Errno{
		api.StCreate: {api.OK, api.ErrDouble, api.ErrColumn}, api.StDrop: {api.OK, api.ErrTable}, api.StInsert: {api.OK, api.ErrTable, api.ErrCount, api.ErrType},
		api.StUpdate: {api.OK, api.ErrTable, api.ErrColumn, api.ErrDouble, api.ErrType}, api.StDelete: {api.OK, api.ErrTable, api.ErrColumn, api.ErrType},
		api.StSelect: {api.OK, api.ErrTable, api.ErrColumn, api.ErrDouble, api.ErrType, api.ErrForm},
	} {
		for _, e := range l {
			if n := seen[seenAt{kind, e}]; n < 100 {
				t.Errorf("of kind %d, %d: but %d times", kind, e, n)
			}
		}
	}
}

// spoilt is a statement that is not right any more, mostly.
func (m maker) spoilt(s api.Statement, with api.Statement) api.Statement {
	v := reflect.ValueOf(&s).Elem()
	for range 1 + m.Intn(2) {
		i := m.Intn(v.NumField())
		v.Field(i).Set(reflect.ValueOf(with).Field(i))
	}
	return s
}

func TestRandomStatementsThatAreNotRight(t *testing.T) { // P12.2
	m := newMaker(6)
	for range 10000 {
		c := m.catalog()
		for range 4 {
			holdStatement(t, c, m.spoilt(m.statement(c), m.statement(c)))
			holdStatement(t, c, m.spoilt(m.statement(c), api.Statement{}))
		}
	}
}

func FuzzStatements(f *testing.F) { // P12.2
	for _, s := range []string{"SELECT * FROM t", "INSERT INTO t VALUES (1, 2, 'a')", "UPDATE t SET n = id WHERE s = 'a'", "SELECT n, COUNT(*), MAX(k) FROM t JOIN u ON t.id = u.id WHERE s = k GROUP BY n ORDER BY t.n", "CREATE TABLE z (a INT, PRIMARY KEY (a)); DELETE FROM u WHERE k; DROP TABLE u"} {
		f.Add(s)
	}
	f.Fuzz(func(t *testing.T, source string) {
		c := catalogOf(t, exampleScope)
		l, _ := parse.Script(source)
		for _, s := range l {
			holdStatement(t, c, s)
		}
	})
}
