package catalog_test

import (
	"math/rand"
	"reflect"
	"slices"
	"strings"
	"testing"

	"vestry/api"
	"vestry/catalog"
	"vestry/lex"
	"vestry/parse"
)

const exampleSource = "CREATE TABLE t ( a INT NOT NULL UNIQUE , b TEXT UNIQUE , PRIMARY KEY ( a ) )"

// made is the table of a script of one statement.
func made(t *testing.T, script string) api.Table {
	t.Helper()
	l, f := parse.Script(script)
	if f.Code != api.OK || len(l) != 1 {
		t.Fatalf("%q: %d statements, %v", script, len(l), f)
	}
	x, e := catalog.Make(l[0])
	if e != api.OK {
		t.Fatalf("Make of %q: %d", script, e)
	}
	return x
}

func wantMakeErr(t *testing.T, want api.Errno, s api.Statement) {
	t.Helper()
	if x, e := catalog.Make(s); e != want || !reflect.DeepEqual(x, api.Table{}) {
		t.Errorf("Make(%+v): %+v, %d, not %d", s, x, e, want)
	}
	holdMake(t, s)
}

func wantReadErr(t *testing.T, s string) {
	t.Helper()
	if x, e := catalog.Read(s); e != api.ErrForm || !reflect.DeepEqual(x, api.Table{}) {
		t.Errorf("Read(%q): %+v, %d", s, x, e)
	}
	holdRead(t, s)
}

func wantNoTable(t *testing.T, x api.Table) {
	t.Helper()
	if s, e := catalog.Source(x); s != "" || e != api.ErrForm {
		t.Errorf("Source(%+v): %q, %d", x, s, e)
	}
	holdTable(t, x)
}

func TestExamples(t *testing.T) { // P11.1, P11.2
	x := made(t, "CREATE TABLE t (a INT, b TEXT UNIQUE, PRIMARY KEY (a))")
	want := api.Table{Name: "t", Columns: columns(
		api.Column{Name: "a", Kind: api.KindNum, NotNull: true, Unique: true},
		api.Column{Name: "b", Kind: api.KindText, Unique: true},
	)}
	if !reflect.DeepEqual(x, want) {
		t.Errorf("made is %+v", x)
	}
	if s, e := catalog.Source(x); s != exampleSource || e != api.OK {
		t.Errorf("Source: %q, %d", s, e)
	}
	if back, e := catalog.Read(exampleSource); e != api.OK || !reflect.DeepEqual(back, want) {
		t.Errorf("Read: %+v, %d", back, e)
	}
	wantMakeErr(t, api.ErrColumn, create("t", "c", num("a"), text("b")))
	wantMakeErr(t, api.ErrDouble, create("t", "a", num("a"), num("a")))
}

func TestMakeOfEachPrimary(t *testing.T) { // P11.1
	for size := 1; size <= api.MaxColumns; size++ {
		for at := range size {
			for flags := range 4 {
				l := many(size)
				l[at].NotNull, l[at].Unique = flags&1 == 1, flags&2 == 2
				x, e := catalog.Make(create("t", l[at].Name, l...))
				if e != api.OK || x.Name != "t" || x.Primary != at || len(x.Columns) != size {
					t.Fatalf("with %d columns, primary %d: %+v, %d", size, at, x, e)
				}
				for i, c := range x.Columns {
					want := l[i]
					if i == at {
						want = must(want)
					}
					if c != want {
						t.Errorf("column %d of %d, primary %d: %+v, not %+v", i, size, at, c, want)
					}
				}
				holdTable(t, x)
			}
		}
	}
}

func TestMakeOfNames(t *testing.T) { // P11.1
	for _, name := range rightNames() {
		holdMake(t, create(name, name, num(name)))
		if x, e := catalog.Make(create(name, name, text(name))); e != api.OK || x.Name != name || x.Columns[0].Name != name {
			t.Errorf("a table and a column %q: %+v, %d", name, x, e)
		}
	}
	for _, name := range wrongNames() {
		wantMakeErr(t, api.ErrForm, create(name, "a", num("a")))
		wantMakeErr(t, api.ErrForm, create("t", name, num("a")))
		wantMakeErr(t, api.ErrForm, create("t", "a", num("a"), num(name)))
		wantMakeErr(t, api.ErrForm, create("t", name, num(name)))
	}
}

func TestMakeOfWrongStatements(t *testing.T) { // P11.1
	right := create("t", "a", num("a"))
	for _, kind := range []int{api.MinInt, -1, 0, api.StDrop, api.StInsert, api.StUpdate, api.StDelete, api.StSelect, 7, 257, api.MaxInt} {
		s := right
		s.Kind = kind
		wantMakeErr(t, api.ErrForm, s)
		wantMakeErr(t, api.ErrForm, api.Statement{Kind: kind, Table: "t", Limit: -1})
	}
	for _, limit := range []int{api.MinInt, -2, 0, 1, api.MaxInt} {
		s := right
		s.Limit = limit
		wantMakeErr(t, api.ErrForm, s)
	}
	for _, kind := range []int{api.MinInt, -1, api.KindNull, 3, 257, api.MaxInt} {
		wantMakeErr(t, api.ErrForm, create("t", "a", api.Column{Name: "a", Kind: kind}))
		wantMakeErr(t, api.ErrForm, create("t", "a", num("a"), api.Column{Name: "b", Kind: kind}))
	}
	for _, size := range []int{0, 9, 10, 26} {
		wantMakeErr(t, api.ErrForm, create("t", "a", many(size)...))
	}
	wantMakeErr(t, api.ErrForm, create("t", "a", make([]api.Column, 1<<16)...))
	wantMakeErr(t, api.ErrForm, api.Statement{})
}

func TestMakeOfWhatACreateDoesNotName(t *testing.T) { // P11.1
	e := api.Expr{Kind: api.ExprColumn, Name: "a"}
	full := reflect.ValueOf(api.Statement{
		Rows: [][]api.Value{{{}}}, Sets: []api.Set{{Name: "a", Expr: e}}, Items: []api.Item{{Kind: api.ItemAll}}, Join: "u",
		On: []api.Expr{e}, Where: []api.Expr{e}, Group: []api.Expr{e}, Order: []api.Expr{e}, Desc: true,
	})
	for i := range full.NumField() {
		if full.Field(i).IsZero() {
			continue
		}
		s := create("t", "a", num("a"))
		reflect.ValueOf(&s).Elem().Field(i).Set(full.Field(i))
		wantMakeErr(t, api.ErrForm, s)
	}
}

func TestMakeOfOtherStatements(t *testing.T) { // P11.1
	l, f := parse.Script("DROP TABLE t; INSERT INTO t VALUES (1); UPDATE t SET a = 1; DELETE FROM t; SELECT * FROM t; SELECT a FROM t JOIN u ON a WHERE a GROUP BY a ORDER BY a DESC LIMIT 1")
	if f.Code != api.OK {
		t.Fatal(f)
	}
	for _, s := range l {
		wantMakeErr(t, api.ErrForm, s)
		s.Columns, s.Primary = columns(num("a")), "a"
		wantMakeErr(t, api.ErrForm, s)
	}
}

func TestMakeOfANameTwice(t *testing.T) { // P11.1
	for size := 2; size <= api.MaxColumns; size++ {
		for i := range size {
			for k := range i {
				for at := range size {
					l := many(size)
					primary := l[at].Name
					l[k].Name = l[i].Name
					wantMakeErr(t, api.ErrDouble, create("t", primary, l...))
				}
			}
		}
	}
	// Names that are alike but for their ends are not one.
	holdMake(t, create("a", "ab", num("a"), num("ab"), num("a_"), num("abcdefghijklmnop"), num("abcdefghijklmno")))
	if _, e := catalog.Make(create("a", "a", num("a"), num("b"))); e != api.OK {
		t.Errorf("a column of the table's name: %d", e)
	}
}

func TestMakeWithoutItsPrimary(t *testing.T) { // P11.1
	for size := 1; size <= api.MaxColumns; size++ {
		for _, primary := range []string{"t", "z", "_", "aa", "a0"} {
			wantMakeErr(t, api.ErrColumn, create("t", primary, many(size)...))
		}
	}
	wantMakeErr(t, api.ErrColumn, create("t", "abcdefghijklmno", num("abcdefghijklmnop")))
}

func TestMakeTellsTheFirstError(t *testing.T) { // P11.1, W4
	wantMakeErr(t, api.ErrForm, create("T", "c", num("a"), num("a")))
	wantMakeErr(t, api.ErrForm, create("t", "c", num("a"), num("a"), api.Column{Name: "b"}))
	wantMakeErr(t, api.ErrForm, create("t", "C", num("a"), num("a")))
	wantMakeErr(t, api.ErrForm, create("t", "c", slices.Repeat(columns(num("a")), 9)...))
	wantMakeErr(t, api.ErrDouble, create("t", "c", num("a"), num("a")))
	wantMakeErr(t, api.ErrDouble, create("t", "c", num("b"), text("a"), num("a")))
}

func TestEverySmallStatement(t *testing.T) { // P11.1
	for _, l := range everyRow(2, everyColumn(-1, 0, 1, 2, 3)) {
		for _, primary := range []string{"", "a", "b", "c"} {
			holdMake(t, create("t", primary, l...))
		}
	}
	for _, l := range everyRow(3, everyColumn(1, 2)) {
		for _, primary := range []string{"a", "b", "c"} {
			holdMake(t, create("t", primary, l...))
		}
	}
}

func TestEverySmallTable(t *testing.T) { // P11.2, P11.3, P11.5
	for _, l := range everyRow(2, everyColumn(0, 1, 2, 3)) {
		for primary := -1; primary <= 3; primary++ {
			holdTable(t, api.Table{Name: "t", Columns: l, Primary: primary})
		}
	}
}

func TestTablesThatMayNotBe(t *testing.T) { // P11.2
	right := table("t", "a", num("b"))
	for _, primary := range []int{api.MinInt, -1, 1, 2, 3, 1 << 32, api.MaxInt} {
		wantNoTable(t, api.Table{Name: "t", Columns: right.Columns, Primary: primary})
		wantNoTable(t, api.Table{Name: "t", Primary: primary})
	}
	for _, name := range wrongNames() {
		wantNoTable(t, table(name, "a"))
		wantNoTable(t, table("t", name))
		wantNoTable(t, table("t", "a", num(name)))
	}
	for _, kind := range []int{api.MinInt, -1, api.KindNull, 3, api.MaxInt} {
		wantNoTable(t, table("t", "a", api.Column{Name: "b", Kind: kind}))
		wantNoTable(t, api.Table{Name: "t", Columns: columns(must(api.Column{Name: "a", Kind: kind}))})
	}
	for flags := range 3 {
		c := api.Column{Name: "a", Kind: api.KindNum, NotNull: flags == 1, Unique: flags == 2}
		wantNoTable(t, api.Table{Name: "t", Columns: columns(c)})
		wantNoTable(t, api.Table{Name: "t", Columns: columns(must(num("b")), c), Primary: 1})
	}
	wantNoTable(t, table("t", "a", num("a")))
	wantNoTable(t, table("t", "a", must(num("a"))))
	wantNoTable(t, api.Table{Name: "t", Columns: columns(must(num("a")), must(num("a"))), Primary: 1})
	wantNoTable(t, table("t", "a", num("b"), text("c"), text("b")))
	wantNoTable(t, table("t", "a", many(9)[1:]...))
	wantNoTable(t, api.Table{Name: "t", Columns: slices.Repeat(columns(must(num("a"))), 1<<16)})
	wantNoTable(t, api.Table{Name: "t", Columns: columns()})
	wantNoTable(t, api.Table{})
}

// longest is a table of which no other has a longer source.
func longest() api.Table {
	x := api.Table{Name: strings.Repeat("t", api.MaxName), Primary: 7}
	for i := range api.MaxColumns {
		x.Columns = append(x.Columns, must(text(strings.Repeat("c", api.MaxName-1)+string(rune('0'+i)))))
	}
	return x
}

// maker makes random tables.
type maker struct{ *rand.Rand }

func (m maker) flip() bool { return m.Intn(2) == 0 }

func (m maker) table() api.Table {
	names := rightNames()
	x := api.Table{Name: names[m.Intn(len(names))]}
	for _, i := range m.Perm(len(names))[:1+m.Intn(api.MaxColumns)] {
		x.Columns = append(x.Columns, api.Column{Name: names[i], Kind: 1 + m.Intn(2), NotNull: m.flip(), Unique: m.flip()})
	}
	x.Primary = m.Intn(len(x.Columns))
	x.Columns[x.Primary] = must(x.Columns[x.Primary])
	return x
}

func TestTablesAndSources(t *testing.T) { // P11.2, P11.5
	holdTable(t, longest())
	m := maker{rand.New(rand.NewSource(11))}
	for range 5000 {
		x := m.table()
		if !mayBe(x) {
			t.Fatalf("%+v may not be", x)
		}
		holdTable(t, x)
		if back := made(t, sourceOf(x)); !like(back, x) {
			t.Fatalf("of %q %+v is made, not %+v", sourceOf(x), back, x)
		}
	}
}

func TestReadOfWrongSources(t *testing.T) { // P11.2
	for _, s := range []string{
		"", " ", ";", "a", "--", "\x00", "'", "DROP TABLE t", "SELECT a FROM t", "INSERT INTO t VALUES ( 1 )",
		"CREATE TABLE t ( a INT , PRIMARY KEY ( a ) )",
		"CREATE TABLE t ( a INT NOT NULL , PRIMARY KEY ( a ) )",
		"CREATE TABLE t ( a INT UNIQUE , PRIMARY KEY ( a ) )",
		"CREATE TABLE t (a INT NOT NULL UNIQUE, PRIMARY KEY (a))",
		"CREATE TABLE t ( a INT UNIQUE NOT NULL , PRIMARY KEY ( a ) )",
		"create table t ( a int not null unique , primary key ( a ) )",
		"CREATE TABLE t ( a INT NOT NULL UNIQUE , PRIMARY KEY ( b ) )",
		"CREATE TABLE t ( a INT NOT NULL UNIQUE , a INT NOT NULL UNIQUE , PRIMARY KEY ( a ) )",
		"CREATE TABLE t ( a INT NOT NULL UNIQUE , b INT , b TEXT , PRIMARY KEY ( a ) )",
		"CREATE TABLE t ( PRIMARY KEY ( a ) )",
		"CREATE TABLE t ( " + strings.Repeat("a INT NOT NULL UNIQUE , ", 9) + "PRIMARY KEY ( a ) )",
		"CREATE TABLE abcdefghijklmnopq ( a INT NOT NULL UNIQUE , PRIMARY KEY ( a ) )",
		exampleSource + " ", " " + exampleSource, exampleSource + " ;", exampleSource + "; ", exampleSource + "\x00", exampleSource + "\n",
		exampleSource + " --", exampleSource + " ; " + exampleSource, exampleSource + " ; DROP TABLE t", "DROP TABLE t ; " + exampleSource,
		exampleSource + strings.Repeat(" ", api.MaxSource), strings.Repeat(exampleSource+" ; ", 8) + exampleSource,
		strings.ReplaceAll(exampleSource, " ", "\n"), strings.ReplaceAll(exampleSource, " ", "  "), strings.ReplaceAll(exampleSource, ",", ", -- b\n"),
	} {
		wantReadErr(t, s)
	}
}

func TestReadOfChangedSources(t *testing.T) { // P11.2
	for _, s := range []string{exampleSource, sourceOf(table("tt", "ab", text("a"))), sourceOf(longest())} {
		for i := range len(s) + 1 {
			for _, c := range []byte("\x00\n '(),;-.09AENTUZ_abtz{\x80\xff") {
				holdRead(t, s[:i]+string([]byte{c})+s[i:])
				if i < len(s) {
					holdRead(t, s[:i]+string([]byte{c})+s[i+1:])
				}
			}
			holdRead(t, s[:i])
			holdRead(t, s[i:])
			holdRead(t, s[:i]+s[min(i+1, len(s)):])
		}
	}
}

func TestReadOfOtherTokens(t *testing.T) { // P11.2
	s := sourceOf(table("t", "b", text("a"), api.Column{Name: "c", Kind: api.KindNum, NotNull: true}, must(text("d"))))
	l, _ := lex.Tokens(s)
	l = l[:len(l)-1]
	for i := range l {
		for k := range l {
			swapped := slices.Clone(l)
			swapped[i], swapped[k] = l[k], l[i]
			holdRead(t, lex.Write(swapped...))
			put := slices.Clone(l)
			put[i] = l[k]
			holdRead(t, lex.Write(put...))
			holdRead(t, lex.Write(slices.Insert(slices.Clone(l), i, l[k])...))
			holdRead(t, lex.Write(slices.Delete(slices.Clone(l), min(i, k), max(i, k))...))
		}
	}
}

func FuzzRead(f *testing.F) { // P11.2, P11.5
	f.Add(exampleSource)
	f.Add(sourceOf(longest()))
	f.Add("CREATE TABLE t (a INT, b TEXT UNIQUE, PRIMARY KEY (a)); DROP TABLE t")
	f.Fuzz(func(t *testing.T, s string) {
		holdRead(t, s)
		l, _ := parse.Script(s)
		for _, one := range l {
			holdMake(t, one)
			if x, e := catalog.Make(one); e == api.OK {
				holdTable(t, x)
			}
		}
	})
}
