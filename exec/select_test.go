package exec_test

import (
	"strings"
	"testing"

	"vestry/api"
	"vestry/exec"
)

func TestExamplesOfSelect(t *testing.T) { // P16.1
	w := examples(t)
	w.wantSelect(t, "SELECT n, COUNT(*) FROM t GROUP BY n", "(NULL, 1), (5, 2)")
	w.wantSelect(t, "SELECT SUM(n), MAX(s) FROM t WHERE id > 1", "(5, 'b')")
	w.wantSelect(t, "SELECT id FROM t ORDER BY n DESC LIMIT 2", "(1), (3)")
}

func TestPlainSelects(t *testing.T) { // P16.1
	w := examples(t)
	all := "(1, 5, 'a'), (2, NULL, 'b'), (3, 5, NULL)"
	for source, want := range map[string]string{
		"SELECT * FROM t":                                      all,
		"SELECT s, id, n FROM t":                               "('a', 1, 5), ('b', 2, NULL), (NULL, 3, 5)",
		"SELECT *, id + 1, * FROM t WHERE id = 1":              "(1, 5, 'a', 2, 1, 5, 'a')",
		"SELECT 7 FROM t":                                      "(7), (7), (7)",
		"SELECT NULL, 'it''s', -5 FROM t WHERE id = 3":         "(NULL, 'it''s', -5)",
		"SELECT id * 2, n IS NULL, s = 'b' FROM t":             "(2, 0, 0), (4, 1, 1), (6, 0, NULL)",
		"SELECT id FROM t WHERE n = 5":                         "(1), (3)",
		"SELECT id FROM t WHERE n <> 5":                        "",
		"SELECT id FROM t WHERE NOT n <> 5":                    "(1), (3)",
		"SELECT id FROM t WHERE n IS NULL OR s IS NULL":        "(2), (3)",
		"SELECT id FROM t WHERE NULL":                          "",
		"SELECT id FROM t WHERE 0":                             "",
		"SELECT id FROM t WHERE -2":                            "(1), (2), (3)",
		"SELECT id FROM t WHERE id - 2":                        "(1), (3)",
		"SELECT * FROM none":                                   "",
		"SELECT 1 / 0 FROM none WHERE 1 / 0 ORDER BY z":        "",
		"SELECT z FROM none LIMIT 5":                           "",
		"SELECT t.id FROM t WHERE t.s >= 'a' AND t.id % 2 = 0": "(2)",
	} {
		w.wantSelect(t, source, want)
	}
}

func TestOrders(t *testing.T) { // P16.1
	var w world
	w.add(tabled(t, "t", "id INT, n INT, s TEXT, PRIMARY KEY (id)"), written(t, "(-4, 2, 'b'), (0, NULL, ''), (1, 2, 'ab'), (2, -1, NULL), (3, NULL, 'B'), (5, 1, 'a'), (7, 2, 'b')"))
	for source, want := range map[string]string{
		"SELECT id FROM t ORDER BY id":                            "(-4), (0), (1), (2), (3), (5), (7)",
		"SELECT id FROM t ORDER BY id DESC":                       "(7), (5), (3), (2), (1), (0), (-4)",
		"SELECT id FROM t ORDER BY n":                             "(0), (3), (2), (5), (-4), (1), (7)",
		"SELECT id FROM t ORDER BY n DESC":                        "(-4), (1), (7), (5), (2), (0), (3)",
		"SELECT id FROM t ORDER BY s":                             "(2), (0), (3), (5), (1), (-4), (7)",
		"SELECT id FROM t ORDER BY s DESC":                        "(-4), (7), (1), (5), (3), (0), (2)",
		"SELECT s FROM t WHERE n = 2 ORDER BY t.id DESC":          "('b'), ('ab'), ('b')",
		"SELECT -id FROM t WHERE id > 0 ORDER BY id":              "(-1), (-2), (-3), (-5), (-7)",
		"SELECT n, id FROM t ORDER BY n LIMIT 3":                  "(NULL, 0), (NULL, 3), (-1, 2)",
		"SELECT n, id FROM t ORDER BY n DESC LIMIT 1":             "(2, -4)",
		"SELECT id FROM t ORDER BY id LIMIT 0":                    "",
		"SELECT id FROM t LIMIT 2":                                "(-4), (0)",
		"SELECT id FROM t LIMIT 7":                                "(-4), (0), (1), (2), (3), (5), (7)",
		"SELECT id FROM t LIMIT 8":                                "(-4), (0), (1), (2), (3), (5), (7)",
		"SELECT id FROM t WHERE id > 1 LIMIT 9223372036854775807": "(2), (3), (5), (7)",
	} {
		w.wantSelect(t, source, want)
	}
}

func TestJoins(t *testing.T) { // P16.1
	w := examples(t)
	for source, want := range map[string]string{
		"SELECT t.id, k FROM t JOIN u ON 1":                                 "(1, 'a'), (1, 'b'), (1, 'c'), (2, 'a'), (2, 'b'), (2, 'c'), (3, 'a'), (3, 'b'), (3, 'c')",
		"SELECT * FROM t JOIN u ON t.id = u.id":                             "(1, 5, 'a', 1, 'c'), (2, NULL, 'b', 2, 'a')",
		"SELECT * FROM u JOIN t ON t.id = u.id":                             "(2, 'a', 2, NULL, 'b'), (1, 'c', 1, 5, 'a')",
		"SELECT t.id FROM t JOIN u ON NULL":                                 "",
		"SELECT t.id FROM t JOIN u ON u.id IS NULL":                         "(1), (2), (3)",
		"SELECT t.id, k FROM t JOIN u ON s = k":                             "(1, 'a'), (2, 'b')",
		"SELECT t.id, u.id FROM t JOIN u ON t.id < u.id WHERE n = 5":        "(1, 2)",
		"SELECT n FROM t JOIN none ON 1":                                    "",
		"SELECT n FROM none JOIN t ON 1":                                    "",
		"SELECT COUNT(*) FROM none JOIN t ON 1":                             "(0)",
		"SELECT COUNT(*), COUNT(u.id), SUM(n) FROM t JOIN u ON 1":           "(9, 6, 30)",
		"SELECT k, COUNT(n) FROM t JOIN u ON t.id <> u.id GROUP BY u.k":     "('a', 2), ('c', 1)",
		"SELECT t.id, k FROM t JOIN u ON 1 ORDER BY k DESC LIMIT 4":         "(1, 'c'), (2, 'c'), (3, 'c'), (1, 'b')",
		"SELECT t.id FROM t JOIN u ON 1 WHERE t.id = 2 AND k > 'a' LIMIT 5": "(2), (2)",
	} {
		w.wantSelect(t, source, want)
	}
}

func TestGroups(t *testing.T) { // P16.1
	var w world
	w.add(tabled(t, "t", "id INT, n INT, s TEXT, PRIMARY KEY (id)"), written(t, "(1, 2, 'b'), (2, NULL, NULL), (3, 2, 'a'), (4, -1, NULL), (5, NULL, 'B'), (6, 1, 'a'), (7, 2, 'b')"))
	w.add(tabled(t, "none", "z INT, PRIMARY KEY (z)"), nil)
	for source, want := range map[string]string{
		"SELECT n FROM t GROUP BY n":                                            "(NULL), (-1), (1), (2)",
		"SELECT n FROM t GROUP BY n ORDER BY n":                                 "(NULL), (-1), (1), (2)",
		"SELECT n FROM t GROUP BY n ORDER BY n DESC":                            "(2), (1), (-1), (NULL)",
		"SELECT s, COUNT(*), s FROM t GROUP BY s ORDER BY t.s DESC LIMIT 3":     "('b', 2, 'b'), ('a', 2, 'a'), ('B', 1, 'B')",
		"SELECT COUNT(*) FROM t GROUP BY s":                                     "(2), (1), (2), (2)",
		"SELECT s, COUNT(n), SUM(n), MIN(n), MAX(n) FROM t GROUP BY s":          "(NULL, 1, -1, -1, -1), ('B', 0, NULL, NULL, NULL), ('a', 2, 3, 1, 2), ('b', 2, 4, 2, 2)",
		"SELECT n, MIN(s), MAX(s), COUNT(s), COUNT(*) FROM t GROUP BY n":        "(NULL, 'B', 'B', 1, 2), (-1, NULL, NULL, 0, 1), (1, 'a', 'a', 1, 1), (2, 'a', 'b', 3, 3)",
		"SELECT COUNT(*), COUNT(n), COUNT(s), COUNT(NULL), COUNT(7) FROM t":     "(7, 5, 5, 0, 7)",
		"SELECT SUM(n), MIN(n), MAX(n), MIN(s), MAX(s) FROM t":                  "(6, -1, 2, 'B', 'b')",
		"SELECT SUM(id * n), MIN(id - n), MAX(n IS NULL), SUM(-n) FROM t":       "(24, -1, 1, -6)",
		"SELECT SUM(id * n), MIN(id - n) FROM t WHERE id > 3":                   "(16, 5)",
		"SELECT SUM(NULL), MIN(NULL), MAX(NULL) FROM t":                         "(NULL, NULL, NULL)",
		"SELECT COUNT(*), COUNT(z), SUM(z), MIN(z), MAX(z), SUM(1) FROM none":   "(0, 0, NULL, NULL, NULL, NULL)",
		"SELECT COUNT(*), SUM(n) FROM t WHERE id > 7":                           "(0, NULL)",
		"SELECT z, COUNT(*) FROM none GROUP BY z":                               "",
		"SELECT n, COUNT(*) FROM t WHERE id > 7 GROUP BY n":                     "",
		"SELECT COUNT(*) FROM t LIMIT 0":                                        "",
		"SELECT COUNT(*) FROM t LIMIT 1":                                        "(7)",
		"SELECT n, MAX(id) FROM t GROUP BY n LIMIT 2":                           "(NULL, 5), (-1, 4)",
		"SELECT id, SUM(n) FROM t WHERE id < 4 GROUP BY id ORDER BY id DESC":    "(3, 2), (2, NULL), (1, 2)",
		"SELECT t.n, COUNT(*) FROM t GROUP BY n ORDER BY t.n DESC LIMIT 1":      "(2, 3)",
		"SELECT SUM(n = 2), COUNT(n / 2), SUM(n / 2), MAX('x'), MIN(5) FROM t":  "(3, 5, 3, 'x', 5)",
		"SELECT MIN(id), MAX(id), COUNT(*), SUM(id) FROM t WHERE s IS NOT NULL": "(1, 7, 5, 22)",
	} {
		w.wantSelect(t, source, want)
	}
}

func TestErrorsOfSelectInTheirOrder(t *testing.T) { // P16.1
	w := numbers(t, "(1, 0, 3), (2, 1, 0), (3, 2, 4)")
	w.add(tabled(t, "u", "k INT, PRIMARY KEY (k)"), written(t, "(0), (1)"))
	for source, want := range map[string]api.Errno{
		"SELECT 1 / a FROM t":    api.ErrDiv,
		"SELECT MAX + id FROM t": api.ErrNum,
		// Row by row, item by item.
		"SELECT MAX + id, 1 / a FROM t":             api.ErrNum,
		"SELECT 1 / a, MAX + id FROM t":             api.ErrDiv,
		"SELECT 1 / b, MAX + id FROM t":             api.ErrNum,
		"SELECT 1 / b, MAX + (id - 1) FROM t":       api.ErrDiv,
		"SELECT MAX + (id - 1), 1 / b FROM t":       api.ErrNum,
		"SELECT 1 / b, MAX + (id - 2) FROM t":       api.ErrDiv,
		"SELECT id / a FROM t LIMIT 0":              api.ErrDiv,
		"SELECT id / b FROM t LIMIT 1":              api.ErrDiv,
		"SELECT id / b FROM t ORDER BY id LIMIT 1":  api.ErrDiv,
		"SELECT id / b FROM t WHERE id <> 2":        api.OK,
		"SELECT id FROM t WHERE id / b = 9 LIMIT 0": api.ErrDiv,
		// Where of all rows is ahead of what is selected of the first.
		"SELECT 1 / a FROM t WHERE MAX + (id - 2) > 0": api.ErrNum,
		"SELECT MAX + id FROM t WHERE 1 / (id - 3)":    api.ErrDiv,
		// On is ahead of Where, of each two rows; Where is reckoned only where On is true.
		"SELECT k FROM t JOIN u ON 1 / a WHERE MAX + id > 0":               api.ErrDiv,
		"SELECT k FROM t JOIN u ON MAX + id > 0 WHERE 1 / a":               api.ErrNum,
		"SELECT k FROM t JOIN u ON MAX + k > 0 WHERE 1 / a":                api.ErrDiv,
		"SELECT k FROM t JOIN u ON MAX + (k + id - 2) > 0 WHERE 1 / b":     api.ErrDiv,
		"SELECT k FROM t JOIN u ON MAX + (k + id - 1) > 0 WHERE 1 / b":     api.ErrNum,
		"SELECT k FROM t JOIN u ON k WHERE 1 / k":                          api.OK,
		"SELECT k FROM t JOIN u ON NULL WHERE 1 / 0":                       api.OK,
		"SELECT k FROM t JOIN u ON 1 WHERE 1 / k":                          api.ErrDiv,
		"SELECT 1 / k FROM t JOIN u ON 1 WHERE MAX + (k + id - 3) > 0":     api.ErrNum,
		"SELECT 1 / k FROM t JOIN u ON MAX + (k + id - 3) > 0":             api.ErrNum,
		"SELECT k, MAX + id FROM t JOIN u ON k WHERE id = 2 AND 1 / k > 0": api.ErrNum,
		// Likewise with groups; a sum is told behind all.
		"SELECT a, COUNT(1 / b), MIN(MAX + id) FROM t GROUP BY a":             api.ErrNum,
		"SELECT COUNT(1 / b), MIN(MAX + (id - 1)) FROM t":                     api.ErrDiv,
		"SELECT MIN(MAX + (id - 1)), MAX(1 / b) FROM t GROUP BY b":            api.ErrNum,
		"SELECT SUM(1 / a), COUNT(*) FROM t LIMIT 0":                          api.ErrDiv,
		"SELECT SUM(MAX - a) FROM t":                                          api.ErrNum,
		"SELECT SUM(MAX - a) FROM t LIMIT 0":                                  api.ErrNum,
		"SELECT a, SUM(MAX - a) FROM t GROUP BY a":                            api.OK,
		"SELECT SUM(MAX - a), COUNT(1 / (id - 3)) FROM t":                     api.ErrDiv,
		"SELECT SUM(MAX), SUM(1 / (id - 3)) FROM t":                           api.ErrDiv,
		"SELECT k, SUM(MAX), MIN(1 / (id - 3)) FROM t JOIN u ON 1 GROUP BY k": api.ErrDiv,
		"SELECT k, SUM(MAX) FROM t JOIN u ON 1 GROUP BY k LIMIT 0":            api.ErrNum,
		"SELECT id, SUM(MAX * k) FROM t JOIN u ON 1 GROUP BY id":              api.OK,
	} {
		// MAX of a ( is what selects; MAX alone is the greatest number.
		source = strings.NewReplacer("MAX(", "MAX(", "MAX", most).Replace(source)
		w.wantErr(t, source, want)
	}
}

func TestSumsOnTheWay(t *testing.T) { // P16.1
	for source, want := range map[string]api.Errno{
		"(1, MAX, 0), (2, 1, 0), (3, -1, 0)":                 api.ErrNum,
		"(1, MAX, 0), (2, -1, 0), (3, 1, 0)":                 api.OK,
		"(1, 1, 0), (2, MAX, 0), (3, -1, 0)":                 api.ErrNum,
		"(1, -1, 0), (2, MAX, 0), (3, 1, 0)":                 api.OK,
		"(1, -MAX, 0), (2, -1, 0)":                           api.OK,
		"(1, -MAX, 0), (2, -1, 0), (3, -1, 0)":               api.ErrNum,
		"(1, -MAX, 0), (2, -2, 0), (3, 5, 0)":                api.ErrNum,
		"(1, MAX, 0), (2, NULL, 0), (3, 0, 0)":               api.OK,
		"(1, MAX, 0), (2, MAX, 0), (3, -MAX, 0), (4, 1, 0)":  api.ErrNum,
		"(1, MAX, 0), (2, -MAX, 0), (3, MAX, 0), (4, -1, 0)": api.OK,
	} {
		w := numbers(t, filled(source))
		w.wantErr(t, "SELECT SUM(a) FROM t", want)
		w.wantErr(t, "SELECT COUNT(*), SUM(a), b FROM t GROUP BY b LIMIT 0", want)
		w.wantErr(t, "SELECT id, SUM(a) FROM t GROUP BY id", api.OK)
		for _, more := range []string{"1", "id < 0", "NULL"} {
			w.wantErr(t, "SELECT MAX(a), SUM(a) FROM t WHERE "+more, map[string]api.Errno{"1": want}[more])
		}
	}
	// In the order of the rows, not in that in which they are answered.
	w := numbers(t, filled("(1, MAX, 1), (2, 1, 1), (3, -1, 2), (4, -MAX, 2), (5, 7, NULL)"))
	w.wantErr(t, "SELECT b, SUM(a) FROM t GROUP BY b", api.ErrNum)
	w.wantErr(t, "SELECT b, SUM(a) FROM t GROUP BY b LIMIT 1", api.ErrNum)
	w.wantErr(t, "SELECT b, SUM(a) FROM t GROUP BY b ORDER BY b DESC", api.ErrNum)
	w.wantSelect(t, "SELECT SUM(a), b FROM t WHERE id <> 2 AND id <> 4 GROUP BY b ORDER BY b DESC", filled("(-1, 2), (MAX, 1), (7, NULL)"))
	// The least number comes of a sum, and goes away again.
	w = numbers(t, filled("(1, -MAX, -1), (2, -1, NULL), (3, 5, 7)"))
	w.wantSelect(t, "SELECT SUM(a), SUM(b) FROM t", "(-9223372036854775803, 6)")
}

func TestMoreRowsThanAResultHas(t *testing.T) { // P16.1
	for _, size := range []struct{ a, b, all int }{{48, 1, 48}, {20, 10, 200}, {40, 5, 200}, {3, 47, 141}, {5, 41, 205}, {48, 48, 2304}, {29, 7, 203}} {
		var w world
		w.add(tabled(t, "t", "id INT, PRIMARY KEY (id)"), bare(size.a))
		w.add(tabled(t, "u", "k INT, PRIMARY KEY (k)"), bare(size.b))
		for _, source := range []string{"SELECT id FROM t JOIN u ON 1", "SELECT * FROM t JOIN u ON 1 WHERE id > 0 ORDER BY k DESC"} {
			for _, limit := range []string{"", " LIMIT 201", " LIMIT 202", " LIMIT 3000"} {
				if size.all > api.MaxResult {
					w.wantErr(t, source+limit, api.ErrFull)
				} else {
					w.wantCount(t, source+limit, size.all)
				}
			}
			w.wantCount(t, source+" LIMIT 200", min(200, size.all))
			w.wantCount(t, source+" LIMIT 0", 0)
		}
		w.wantCount(t, "SELECT COUNT(*), SUM(k) FROM t JOIN u ON 1", 1)
		w.wantCount(t, "SELECT id, COUNT(*) FROM t JOIN u ON 1 GROUP BY id", size.a)
		if size.all > api.MaxResult { // an error of eval is told ahead
			w.wantErr(t, "SELECT 1 / (id + k - "+brief(size.a+size.b)+") FROM t JOIN u ON 1", api.ErrDiv)
		}
	}
}

func TestSelectOfArguments(t *testing.T) { // P16.1
	w := examples(t)
	t1, u := w.tables[0], w.tables[1]
	one, two := statement(t, "SELECT id FROM t"), statement(t, "SELECT k FROM t JOIN u ON 1")
	scopes := [][]api.Table{nil, {}, {t1}, {u}, {t1, u}, {u, t1}, {t1, t1}, {t1, u, t1}}
	lists := [][]rows{nil, {}, {w.rows[0]}, {nil}, {w.rows[0], w.rows[1]}, {nil, nil}, {w.rows[0], w.rows[1], nil}, {w.rows[1], w.rows[0]}}
	for _, scope := range scopes {
		for _, l := range lists {
			for kind := -1; kind <= 7; kind++ {
				for has, s := range []api.Statement{1: one, 2: two} {
					if s.Kind == 0 {
						continue
					}
					s.Kind = kind
					_, code := holdSelect(t, s, scope, l...)
					if want := kind != api.StSelect || len(scope) != has || len(l) != has; want && code != api.ErrArg {
						t.Errorf("%d, %d tables, %d rows: %d", kind, len(scope), len(l), code)
					}
				}
			}
		}
	}
	for _, source := range []string{"CREATE TABLE t (id INT, PRIMARY KEY (id))", "DROP TABLE t", "INSERT INTO t VALUES (1)", "UPDATE t SET id = 1", "DELETE FROM t"} {
		if got, code := exec.Select(statement(t, source), []api.Table{t1}, w.rows[0]); code != api.ErrArg || got != nil {
			t.Errorf("%s: %v, %d", source, got, code)
		}
	}
	if got, code := exec.Select(api.Statement{}, nil); code != api.ErrArg || got != nil {
		t.Errorf("%v, %d", got, code)
	}
}
