package catalog_test

import (
	"maps"
	"reflect"
	"regexp"
	"slices"
	"strings"
	"testing"

	"vestry/api"
	"vestry/catalog"
)

// What follows up to readOf are the chapter's words, worked out apart from the
// package and from the layers below it.

const namePattern = `[a-z_][a-z0-9_]{0,15}`

var (
	nameForm   = regexp.MustCompile(`\A` + namePattern + `\z`)
	columnForm = regexp.MustCompile(`(` + namePattern + `) (INT|TEXT)( NOT NULL)?( UNIQUE)? , `)
	sourceForm = regexp.MustCompile(`\ACREATE TABLE (` + namePattern + `) \( ((?:` + columnForm.String() + `){1,8})PRIMARY KEY \( (` + namePattern + `) \) \)\z`)
)

// rightColumns tells whether columns may be those of a StCreate.
func rightColumns(l []api.Column) bool {
	return len(l) >= 1 && len(l) <= 8 && !slices.ContainsFunc(l, func(c api.Column) bool {
		return !nameForm.MatchString(c.Name) || c.Kind != 1 && c.Kind != 2
	})
}

// rightCreate tells whether a statement is a StCreate that is right.
func rightCreate(s api.Statement) bool {
	v := reflect.ValueOf(s)
	for i := range v.NumField() {
		switch f := v.Field(i); {
		case slices.Contains([]string{"Kind", "Table", "Columns", "Primary", "Limit"}, v.Type().Field(i).Name):
		case f.Kind() == reflect.Slice && f.Len() == 0:
		case !f.IsZero():
			return false
		}
	}
	return s.Kind == api.StCreate && nameForm.MatchString(s.Table) && rightColumns(s.Columns) && nameForm.MatchString(s.Primary) && s.Limit == -1
}

// placesOf are the places of columns by their names.
func placesOf(l []api.Column) map[string]int {
	m := map[string]int{}
	for i, c := range l {
		m[c.Name] = i
	}
	return m
}

// madeOf is what Make must answer.
func madeOf(s api.Statement) (api.Table, api.Errno) {
	if !rightCreate(s) {
		return api.Table{}, api.ErrForm
	}
	places := placesOf(s.Columns)
	at, there := places[s.Primary]
	switch {
	case len(places) < len(s.Columns):
		return api.Table{}, api.ErrDouble
	case !there:
		return api.Table{}, api.ErrColumn
	}
	l := append([]api.Column(nil), s.Columns...)
	l[at].NotNull, l[at].Unique = true, true
	return api.Table{Name: s.Table, Columns: l, Primary: at}, api.OK
}

// mayBe tells whether a table may be.
func mayBe(t api.Table) bool {
	return nameForm.MatchString(t.Name) && rightColumns(t.Columns) && len(placesOf(t.Columns)) == len(t.Columns) &&
		t.Primary >= 0 && t.Primary < len(t.Columns) && t.Columns[t.Primary].NotNull && t.Columns[t.Primary].Unique
}

// sourceOf is the source of a table that may be.
func sourceOf(t api.Table) string {
	s := "CREATE TABLE " + t.Name + " ( "
	for _, c := range t.Columns {
		s += c.Name + " " + []string{"", "INT", "TEXT"}[c.Kind]
		if c.NotNull {
			s += " NOT NULL"
		}
		if c.Unique {
			s += " UNIQUE"
		}
		s += " , "
	}
	return s + "PRIMARY KEY ( " + t.Columns[t.Primary].Name + " ) )"
}

// readOf is what Read must answer.
func readOf(s string) (api.Table, api.Errno) {
	parts := sourceForm.FindStringSubmatch(s)
	if parts == nil {
		return api.Table{}, api.ErrForm
	}
	t := api.Table{Name: parts[1]}
	for _, one := range columnForm.FindAllStringSubmatch(parts[2], -1) {
		c := api.Column{Name: one[1], Kind: api.KindNum, NotNull: one[3] != "", Unique: one[4] != ""}
		if one[2] == "TEXT" {
			c.Kind = api.KindText
		}
		t.Columns = append(t.Columns, c)
	}
	at, there := placesOf(t.Columns)[parts[len(parts)-1]]
	if t.Primary = at; !there || !mayBe(t) {
		return api.Table{}, api.ErrForm
	}
	return t, api.OK
}

// like tells whether two tables are the same, where an empty list is as none.
func like(a, b api.Table) bool {
	return a.Name == b.Name && a.Primary == b.Primary && slices.Equal(a.Columns, b.Columns)
}

func holdMake(t *testing.T, s api.Statement) {
	t.Helper()
	want, code := madeOf(s)
	if x, e := catalog.Make(s); e != code || !like(x, want) {
		t.Fatalf("Make(%+v): %+v, %d, not %+v, %d", s, x, e, want, code)
	}
}

// holdTable holds Source and Add of a table against the words.
func holdTable(t *testing.T, x api.Table) {
	t.Helper()
	want, code := "", api.ErrForm
	if mayBe(x) {
		want, code = sourceOf(x), api.OK
	}
	if s, e := catalog.Source(x); s != want || e != code {
		t.Fatalf("Source(%+v): %q, %d, not %q, %d", x, s, e, want, code)
	}
	if e := catalog.New().Add(x); e != code {
		t.Fatalf("Add(%+v): %d, not %d", x, e, code)
	}
	if code == api.OK {
		holdRead(t, want)
		back, _ := catalog.Read(want)
		if !like(back, x) {
			t.Fatalf("%q is read as %+v, not %+v", want, back, x)
		}
	}
}

// holdRead holds Read against the words, and what was read against its source.
func holdRead(t *testing.T, s string) {
	t.Helper()
	want, code := readOf(s)
	x, e := catalog.Read(s)
	if e != code || !like(x, want) {
		t.Fatalf("Read(%q): %+v, %d, not %+v, %d", s, x, e, want, code)
	}
	if e != api.OK {
		return
	}
	if back, e := catalog.Source(x); back != s || e != api.OK {
		t.Fatalf("Source(Read(%q)): %q, %d", s, back, e)
	}
}

// num and text are columns that are neither NotNull nor Unique.
func num(name string) api.Column  { return api.Column{Name: name, Kind: api.KindNum} }
func text(name string) api.Column { return api.Column{Name: name, Kind: api.KindText} }

// must is a column that is NotNull and Unique.
func must(c api.Column) api.Column {
	c.NotNull, c.Unique = true, true
	return c
}

func columns(l ...api.Column) []api.Column { return l }

// create is a StCreate.
func create(table, primary string, l ...api.Column) api.Statement {
	return api.Statement{Kind: api.StCreate, Table: table, Columns: l, Primary: primary, Limit: -1}
}

// table has its primary column first, and others behind it.
func table(name, primary string, l ...api.Column) api.Table {
	return api.Table{Name: name, Columns: append(columns(must(num(primary))), l...)}
}

// many are so many columns, each of its own name.
func many(n int) []api.Column {
	var l []api.Column
	for i := range n {
		l = append(l, api.Column{Name: string(rune('a' + i)), Kind: 1 + i%2, NotNull: i%3 == 0, Unique: i%4 < 2})
	}
	return l
}

// wrongNames are no names.
func wrongNames() []string {
	return []string{"", "A", "aB", "5", "5a", "a b", "a ", " a", "a.b", "a-b", "'a'", "NULL", "*", "a\n", "\x00", "a\x00", "é", "abcdefghijklmnopq", strings.Repeat("a", 3000), "a;", "--", "-"}
}

// rightNames are names, by rising bytes.
func rightNames() []string {
	return []string{"_", "_0", "__", "a", "a0", "a9", "a_", "aa", "abcdefghijklmnop", "b", "select", "z", "zzzzzzzzzzzzzzzz"}
}

// everyColumn are all columns of two names, of kinds that may be and others.
func everyColumn(kinds ...int) []api.Column {
	var l []api.Column
	for _, name := range []string{"a", "b"} {
		for _, kind := range kinds {
			for flags := range 4 {
				l = append(l, api.Column{Name: name, Kind: kind, NotNull: flags&1 == 1, Unique: flags&2 == 2})
			}
		}
	}
	return l
}

// everyRow are all rows of up to so many of some columns.
func everyRow(most int, of []api.Column) [][]api.Column {
	all := [][]api.Column{nil}
	last := all
	for range most {
		var longer [][]api.Column
		for _, row := range last {
			for _, c := range of {
				longer = append(longer, append(slices.Clone(row), c))
			}
		}
		all, last = append(all, longer...), longer
	}
	return all
}

func sortedNames(m map[string]api.Table) []string { return slices.Sorted(maps.Keys(m)) }
