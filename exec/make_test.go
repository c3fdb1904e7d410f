package exec_test

import (
	"fmt"
	"slices"
	"strings"
	"testing"

	"vestry/api"
	"vestry/catalog"
	"vestry/check"
	"vestry/parse"
)

// statement is that of a source.
func statement(t *testing.T, source string) api.Statement {
	t.Helper()
	l, f := parse.Script(source)
	if f.Code != api.OK || len(l) != 1 {
		t.Fatalf("%q: %v", source, f)
	}
	return l[0]
}

// tabled is the table of a name with columns that are written as in SQL.
func tabled(t *testing.T, name, columns string) api.Table {
	t.Helper()
	x, code := catalog.Make(statement(t, "CREATE TABLE "+name+" ("+columns+")"))
	if code != api.OK {
		t.Fatalf("%s: %d", columns, code)
	}
	return x
}

// written are rows that are written as in SQL; of an empty source none.
func written(t *testing.T, source string) rows {
	t.Helper()
	if source == "" {
		return nil
	}
	return statement(t, "INSERT INTO t VALUES "+source).Rows
}

// bare are rows of one number, from 1 on up to so many.
func bare(count int) rows {
	var l rows
	for n := range count {
		l = append(l, []api.Value{num(n + 1)})
	}
	return l
}

// world are tables with their rows, which statements name.
type world struct {
	tables []api.Table
	rows   []rows
}

func (w *world) add(x api.Table, l rows) {
	w.tables, w.rows = append(w.tables, x), append(w.rows, l)
}

// scope are the tables of a statement, and their rows.
func (w world) scope(t *testing.T, s api.Statement) ([]api.Table, []rows) {
	t.Helper()
	var l []api.Table
	var all []rows
	for _, name := range []string{s.Table, s.Join} {
		at := slices.IndexFunc(w.tables, func(x api.Table) bool { return x.Name == name })
		if at >= 0 {
			l, all = append(l, w.tables[at]), append(all, w.rows[at])
		}
	}
	if !promised(s, l, all...) {
		c := catalog.New()
		for _, x := range l {
			c.Add(x)
		}
		t.Fatalf("nothing is promised of %s: %d", brief(s), check.Statement(c, s))
	}
	return l, all
}

// wantSelect holds what is answered to a source, with the rows as they are written.
func (w world) wantSelect(t *testing.T, source, want string) {
	t.Helper()
	s := statement(t, source)
	scope, all := w.scope(t, s)
	if got, code := holdSelect(t, s, scope, all...); code != api.OK || !alike(got, written(t, want)) {
		t.Errorf("%s: %s, %d, not %s", source, brief(got), code, want)
	}
}

// wantCount holds how many rows are answered to a source.
func (w world) wantCount(t *testing.T, source string, want int) {
	t.Helper()
	s := statement(t, source)
	scope, all := w.scope(t, s)
	if got, code := holdSelect(t, s, scope, all...); code != api.OK || len(got) != want {
		t.Errorf("%s: %d rows, %d, not %d", source, len(got), code, want)
	}
}

// wantErr holds the error of a source.
func (w world) wantErr(t *testing.T, source string, want api.Errno) {
	t.Helper()
	s := statement(t, source)
	scope, all := w.scope(t, s)
	code := api.OK
	if s.Kind == api.StSelect {
		_, code = holdSelect(t, s, scope, all...)
	} else {
		_, _, code = holdChange(t, s, scope[0], all[0])
	}
	if code != want {
		t.Errorf("%s: %d, not %d", source, code, want)
	}
}

// wantChange holds which rows there are behind a source, and how many changed.
func (w world) wantChange(t *testing.T, source, want string, count int) {
	t.Helper()
	s := statement(t, source)
	scope, all := w.scope(t, s)
	if got, n, code := holdChange(t, s, scope[0], all[0]); code != api.OK || n != count || !alike(got, written(t, want)) {
		t.Errorf("%s: %s, %d, %d, not %s, %d", source, brief(got), n, code, want, count)
	}
}

// examples are the table of the chapter, and another one.
func examples(t *testing.T) world {
	t.Helper()
	var w world
	w.add(tabled(t, "t", "id INT, n INT, s TEXT, PRIMARY KEY (id)"), written(t, "(1, 5, 'a'), (2, NULL, 'b'), (3, 5, NULL)"))
	w.add(tabled(t, "u", "id INT, k TEXT, PRIMARY KEY (k)"), written(t, "(2, 'a'), (NULL, 'b'), (1, 'c')"))
	w.add(tabled(t, "none", "z INT, PRIMARY KEY (z)"), nil)
	return w
}

// numbers has one table, t, of an INT id, and INTs a, b, with rows that are written.
func numbers(t *testing.T, source string) world {
	t.Helper()
	var w world
	w.add(tabled(t, "t", "id INT, a INT, b INT, PRIMARY KEY (id)"), written(t, source))
	return w
}

// most is the greatest number, as it is written.
var most = fmt.Sprint(api.MaxInt)

// filled is a source with the greatest number in the place of each MAX.
func filled(source string) string { return strings.ReplaceAll(source, "MAX", most) }
