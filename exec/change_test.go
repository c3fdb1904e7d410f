package exec_test

import (
	"strings"
	"testing"

	"vestry/api"
	"vestry/exec"
)

func TestExamplesOfChange(t *testing.T) { // P16.2
	w := examples(t)
	w.wantErr(t, "INSERT INTO t VALUES (1, 1, 'c')", api.ErrDouble)
}

// asked has a table whose columns ask more of its rows.
func asked(t *testing.T, source string) world {
	t.Helper()
	var w world
	w.add(tabled(t, "t", "a TEXT UNIQUE, id INT, b INT NOT NULL, c INT UNIQUE, PRIMARY KEY (id)"), written(t, source))
	return w
}

func TestInserts(t *testing.T) { // P16.2
	w := asked(t, "('x', 2, 0, 5), (NULL, 4, 0, NULL)")
	for source, want := range map[string]string{
		"('y', 3, 0, 6)":                         "('x', 2, 0, 5), ('y', 3, 0, 6), (NULL, 4, 0, NULL)",
		"('y', 1, 7, 6)":                         "('y', 1, 7, 6), ('x', 2, 0, 5), (NULL, 4, 0, NULL)",
		"('y', 5, -7, -6)":                       "('x', 2, 0, 5), (NULL, 4, 0, NULL), ('y', 5, -7, -6)",
		"(NULL, 3, 0, NULL)":                     "('x', 2, 0, 5), (NULL, 3, 0, NULL), (NULL, 4, 0, NULL)",
		"(NULL, 9, 0, NULL), (NULL, 0, 0, NULL)": "(NULL, 0, 0, NULL), ('x', 2, 0, 5), (NULL, 4, 0, NULL), (NULL, 9, 0, NULL)",
		"('X', 9, 0, 2), ('', 0, 0, 4)":          "('', 0, 0, 4), ('x', 2, 0, 5), (NULL, 4, 0, NULL), ('X', 9, 0, 2)",
	} {
		w.wantChange(t, "INSERT INTO t VALUES "+source, want, strings.Count(source, "("))
	}
	for source, want := range map[string]api.Errno{
		"('y', NULL, 0, 6)": api.ErrNull,
		"('y', 3, NULL, 6)": api.ErrNull,
		"('x', 3, 0, 6)":    api.ErrDouble,
		"('y', 2, 0, 6)":    api.ErrDouble,
		"('y', 4, 0, 6)":    api.ErrDouble,
		"('y', 3, 0, 5)":    api.ErrDouble,
		// A row that is put in is there for those behind it.
		"('y', 3, 0, 6), ('z', 3, 0, 7)":                     api.ErrDouble,
		"('y', 3, 0, 6), ('y', 1, 0, 7)":                     api.ErrDouble,
		"(NULL, 3, 0, 6), (NULL, 1, 0, NULL), ('', 5, 0, 6)": api.ErrDouble,
		// Of one row nulls are told first, wherever they stand; of two the first one's error.
		"('x', 2, NULL, 5)":                  api.ErrNull,
		"('x', NULL, 0, NULL)":               api.ErrNull,
		"('x', 3, 0, 6), (NULL, NULL, 0, 7)": api.ErrDouble,
		"(NULL, NULL, 0, 7), ('x', 3, 0, 6)": api.ErrNull,
	} {
		w.wantErr(t, "INSERT INTO t VALUES "+source, want)
	}
}

func TestInsertsIntoAFullTable(t *testing.T) { // P16.2
	for _, there := range []int{45, 46, 47, 48} {
		var w world
		w.add(tabled(t, "t", "id INT, PRIMARY KEY (id)"), bare(there))
		for source, want := range map[string]api.Errno{
			"(100)":                     api.OK,
			"(0), (-1)":                 api.OK,
			"(100), (50), (99)":         api.OK,
			"(100), (50), (99), (1)":    api.ErrDouble,
			"(100), (50), (99), (NULL)": api.ErrNull,
			"(100), (50), (50), (NULL)": api.ErrDouble,
			"(1)":                       api.ErrDouble,
			"(NULL)":                    api.ErrNull,
		} {
			// It is full as soon as one is to be put in beside MaxTable, if nothing is wrong with that.
			fit := api.MaxTable - there
			list := strings.Split(source, ", ")
			if fit < len(list) && list[fit] != "(1)" && list[fit] != "(NULL)" && !(fit == 2 && list[fit] == list[1]) {
				want = api.ErrFull
			}
			w.wantErr(t, "INSERT INTO t VALUES "+source, want)
		}
	}
}

func TestUpdates(t *testing.T) { // P16.2
	rows := "('x', 1, 10, 5), (NULL, 2, 20, NULL), ('y', 3, 30, 7)"
	w := asked(t, rows)
	for source, want := range map[string]string{
		"3 SET b = b + 1":                        "('x', 1, 11, 5), (NULL, 2, 21, NULL), ('y', 3, 31, 7)",
		"2 SET b = b + 1 WHERE a IS NOT NULL":    "('x', 1, 11, 5), (NULL, 2, 20, NULL), ('y', 3, 31, 7)",
		"2 SET b = 0 WHERE a > ''":               "('x', 1, 0, 5), (NULL, 2, 20, NULL), ('y', 3, 0, 7)",
		"0 SET b = 0 WHERE NULL":                 rows,
		"0 SET b = NULL, c = 1 / 0 WHERE id > 3": rows,
		// Also those are counted which stay as they are.
		"3 SET b = b":                "('x', 1, 10, 5), (NULL, 2, 20, NULL), ('y', 3, 30, 7)",
		"1 SET a = 'x' WHERE id = 1": rows,
		// All are reckoned over the row as it was.
		"3 SET id = b, b = id":                        "('x', 10, 1, 5), (NULL, 20, 2, NULL), ('y', 30, 3, 7)",
		"3 SET b = id * 100, id = b + id, c = b - id": "('x', 11, 100, 9), (NULL, 22, 200, 18), ('y', 33, 300, 27)",
		"3 SET a = NULL, c = NULL":                    "(NULL, 1, 10, NULL), (NULL, 2, 20, NULL), (NULL, 3, 30, NULL)",
		"1 SET a = NULL WHERE a = 'x'":                "(NULL, 1, 10, 5), (NULL, 2, 20, NULL), ('y', 3, 30, 7)",
		// They stand by the new values; a value may pass from row to row.
		"3 SET id = 4 - id":               "('y', 1, 30, 7), (NULL, 2, 20, NULL), ('x', 3, 10, 5)",
		"3 SET id = id + 1":               "('x', 2, 10, 5), (NULL, 3, 20, NULL), ('y', 4, 30, 7)",
		"3 SET id = id - 1, c = 12 - c":   "('x', 0, 10, 7), (NULL, 1, 20, NULL), ('y', 2, 30, 5)",
		"1 SET id = -9 WHERE id = 3":      "('y', -9, 30, 7), ('x', 1, 10, 5), (NULL, 2, 20, NULL)",
		"2 SET id = 5 - id WHERE id >= 2": "('x', 1, 10, 5), ('y', 2, 30, 7), (NULL, 3, 20, NULL)",
	} {
		count, set, _ := strings.Cut(source, " ")
		w.wantChange(t, "UPDATE t "+set, want, int(count[0]-'0'))
	}
	for source, want := range map[string]api.Errno{
		"SET b = NULL":                            api.ErrNull,
		"SET b = c":                               api.ErrNull,
		"SET b = c WHERE c = c":                   api.OK,
		"SET id = NULL WHERE id = 3":              api.ErrNull,
		"SET a = 'x'":                             api.ErrDouble,
		"SET a = 'x' WHERE id = 2":                api.ErrDouble,
		"SET a = 'y' WHERE id = 1":                api.ErrDouble,
		"SET id = 2 WHERE id <> 2":                api.ErrDouble,
		"SET id = 5 WHERE id > 1":                 api.ErrDouble,
		"SET c = 5 WHERE id > 1":                  api.ErrDouble,
		"SET c = 5 WHERE id = 1":                  api.OK,
		"SET b = 1 / (id - 2)":                    api.ErrDiv,
		"SET b = 1 / (id - 2) WHERE id <> 2":      api.OK,
		"SET b = 5 WHERE 1 / (id - 3)":            api.ErrDiv,
		"SET b = 5 WHERE 9223372036854775807 + b": api.ErrNum,
		// Row by row: Where, the Sets in their order, then nulls.
		"SET b = 1 / (id - 1) WHERE 9223372036854775807 + (id - 1) > 0": api.ErrDiv,
		"SET b = 1 / (id - 2) WHERE 9223372036854775807 + (id - 1) > 0": api.ErrNum,
		"SET b = 1 / (id - 2) WHERE 9223372036854775807 + (id - 2) > 0": api.ErrDiv,
		"SET b = 1 / (id - 1), c = 9223372036854775807 + id":            api.ErrDiv,
		"SET c = 9223372036854775807 + id, b = 1 / (id - 1)":            api.ErrNum,
		"SET c = 9223372036854775807 + (id - 1), b = 1 / (id - 2)":      api.ErrNum,
		"SET b = NULL, c = 1 / (id - 1)":                                api.ErrDiv,
		"SET b = NULL, c = 1 / (id - 2)":                                api.ErrNull,
		"SET b = c, c = 1 / (id - 3)":                                   api.ErrNull,
		"SET b = c, c = 1 / (id - 2)":                                   api.ErrDiv,
		"SET b = c, c = 1 / (id - 1)":                                   api.ErrDiv,
		"SET b = c WHERE 1 / (id - 2)":                                  api.ErrDiv,
		"SET b = c WHERE 1 / (id - 3) < 9":                              api.ErrNull,
		// Doubles are told behind all.
		"SET id = 5, b = c":               api.ErrNull,
		"SET id = 5, c = 1 / (id - 3)":    api.ErrDiv,
		"SET a = 'z' WHERE 1 / (id - 3)":  api.ErrDiv,
		"SET a = 'z', b = 4 / (3 - id)":   api.ErrDiv,
		"SET a = 'z', b = 4 / (4 - id)":   api.ErrDouble,
		"SET c = 0 WHERE b < 25":          api.ErrDouble,
		"SET c = NULL WHERE b < 25":       api.OK,
		"SET c = 7 WHERE c IS NULL":       api.ErrDouble,
		"SET a = 'X', c = 9 WHERE b < 11": api.OK,
	} {
		w.wantErr(t, "UPDATE t "+source, want)
	}
}

func TestDeletes(t *testing.T) { // P16.2
	rows := "('x', 1, 10, 5), (NULL, 2, 20, NULL), ('y', 3, 30, 7)"
	w := asked(t, rows)
	for source, want := range map[string]string{
		"3":                       "",
		"3 WHERE 1":               "",
		"0 WHERE 0":               rows,
		"0 WHERE NULL":            rows,
		"1 WHERE id = 2":          "('x', 1, 10, 5), ('y', 3, 30, 7)",
		"2 WHERE id <> 2":         "(NULL, 2, 20, NULL)",
		"1 WHERE c > 5":           "('x', 1, 10, 5), (NULL, 2, 20, NULL)",
		"1 WHERE NOT c > 5":       "(NULL, 2, 20, NULL), ('y', 3, 30, 7)",
		"2 WHERE a IS NOT NULL":   "(NULL, 2, 20, NULL)",
		"2 WHERE b - 10":          "('x', 1, 10, 5)",
		"0 WHERE a = 'z' OR a=''": rows,
	} {
		count, where, _ := strings.Cut(source, " ")
		w.wantChange(t, "DELETE FROM t "+where, want, int(count[0]-'0'))
	}
	w.wantErr(t, "DELETE FROM t WHERE 1 / (id - 3)", api.ErrDiv)
	w.wantErr(t, "DELETE FROM t WHERE 9223372036854775807 + (id - 1) > 1 / (id - 3)", api.ErrNum)
	w.wantErr(t, "DELETE FROM t WHERE 9223372036854775807 + (id - 2) > 1 / (id - 2)", api.ErrDiv)
	for _, source := range []string{"DELETE FROM t", "DELETE FROM t WHERE 1 / 0", "UPDATE t SET b = 1 / 0"} {
		asked(t, "").wantChange(t, source, "", 0)
	}
}

func TestRowsStandByTheirPrimaryColumn(t *testing.T) { // P16.2
	var w world
	w.add(tabled(t, "t", "n INT, k TEXT, PRIMARY KEY (k)"), written(t, "(5, 'b'), (4, 'ba'), (3, 'c')"))
	w.wantChange(t, "INSERT INTO t VALUES (9, ''), (8, 'bb'), (7, 'B'), (6, 'd')", "(9, ''), (7, 'B'), (5, 'b'), (4, 'ba'), (8, 'bb'), (3, 'c'), (6, 'd')", 4)
	w.wantChange(t, "UPDATE t SET k = 'z' WHERE n = 4", "(5, 'b'), (3, 'c'), (4, 'z')", 1)
	w.wantChange(t, "UPDATE t SET k = '', n = NULL WHERE n = 3", "(NULL, ''), (5, 'b'), (4, 'ba')", 1)
	w.wantChange(t, "DELETE FROM t WHERE k > 'b'", "(5, 'b')", 2)
	// Numbers stand as they are, not as they are written.
	numbers(t, "(-10, 0, 0), (-9, 0, 0), (5, 0, 0)").wantChange(t, "INSERT INTO t VALUES (10, 0, 0), (-1, 0, 0)", "(-10, 0, 0), (-9, 0, 0), (-1, 0, 0), (5, 0, 0), (10, 0, 0)", 2)
}

func TestChangeOfArguments(t *testing.T) { // P16.2
	w := asked(t, "('x', 1, 10, 5), (NULL, 2, 20, NULL)")
	x, there := w.tables[0], w.rows[0]
	wantArg := func(s api.Statement, x api.Table, there rows) {
		t.Helper()
		if got, n, code := exec.Change(s, x, there); code != api.ErrArg || n != 0 || got != nil {
			t.Errorf("Change(%s, %s, %s): %v, %d, %d", brief(s), brief(x), brief(there), got, n, code)
		}
		holdChange(t, s, x, there)
	}
	for _, source := range []string{"INSERT INTO t VALUES ('z', 9, 9, 9)", "UPDATE t SET b = 1", "DELETE FROM t"} {
		s := statement(t, source)
		if _, _, code := holdChange(t, s, x, there); code != api.OK {
			t.Errorf("%s: %d", source, code)
		}
		for _, kind := range []int{api.MinInt, -1, 0, 1, 2, 6, 7, api.MaxInt} {
			none := s
			none.Kind = kind
			wantArg(none, x, there)
		}
		for _, primary := range []int{api.MinInt, -1, 4, 5, api.MaxInt} {
			none := x
			none.Primary = primary
			wantArg(s, none, there)
			wantArg(s, none, nil)
		}
		wantArg(s, api.Table{Name: "t"}, nil)
		wantArg(s, tabled(t, "u", "a TEXT UNIQUE, id INT, b INT NOT NULL, c INT UNIQUE, PRIMARY KEY (id)"), there)
		for _, row := range []string{"('y', 3, 30)", "('y', 3, 30, 6, 6)", "('y')"} {
			for _, l := range []rows{written(t, row), append(written(t, row), there...), append(there[:1:1], append(written(t, row), there[1])...), append(there[:2:2], written(t, row)...)} {
				wantArg(s, x, l)
			}
			wantArg(s, x, rows{nil})
			more := s
			more.Rows = append(more.Rows[:len(more.Rows):len(more.Rows)], written(t, row)...)
			wantArg(more, x, there)
			// It is told ahead of what is wrong with a row in front.
			more.Rows = append(written(t, "(NULL, NULL, NULL, NULL)"), written(t, row)...)
			wantArg(more, x, there)
			more.Rows = rows{{}}
			wantArg(more, x, there)
		}
	}
	for _, source := range []string{"SELECT * FROM t", "CREATE TABLE t (id INT, PRIMARY KEY (id))", "DROP TABLE t"} {
		wantArg(statement(t, source), x, there)
	}
	wantArg(api.Statement{}, api.Table{}, nil)
}
