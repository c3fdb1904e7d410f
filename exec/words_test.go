package exec_test

import (
	"fmt"
	"math/big"
	"slices"
	"sort"
	"strings"
	"testing"

	"vestry/api"
	"vestry/catalog"
	"vestry/check"
	"vestry/exec"
)

var null = api.Value{}

func num(n int) api.Value     { return api.Value{Kind: api.KindNum, Num: n} }
func text(s string) api.Value { return api.Value{Kind: api.KindText, Text: s} }

// rows are lists of values, as they are answered.
type rows = [][]api.Value

// What follows up to changeOf are the words of the chapters 13 and 16, worked
// out apart from the package and from the layers below it, over expressions
// that are not bound: a name is looked for in the scope each time.

// numberOf is the number of the column that a name means in a scope.
func numberOf(scope []api.Table, e api.Expr) int {
	number := 0
	for _, t := range scope {
		for _, c := range t.Columns {
			if c.Name == e.Name && (e.Table == "" || e.Table == t.Name) {
				return number
			}
			number++
		}
	}
	panic("no such column: " + e.Table + "." + e.Name)
}

// orderOf is below 0, 0, above 0, as a stands ahead of b, with it, behind it.
func orderOf(a, b api.Value) int {
	switch {
	case a.Kind != b.Kind:
		return a.Kind - b.Kind
	case a.Num < b.Num:
		return -1
	case a.Num > b.Num:
		return 1
	}
	return strings.Compare(a.Text, b.Text)
}

func truth(yes bool) api.Value {
	if yes {
		return num(1)
	}
	return num(0)
}

// opOf is an operator of two values, by its sign.
func opOf(o int, a, b api.Value) (api.Value, api.Errno) {
	sign := []string{"", "OR", "AND", "=", "<>", "<", "<=", ">", ">=", "+", "-", "*", "/", "%"}[o]
	no, yes := num(0), num(1)
	if sign == "AND" || sign == "OR" {
		decides := map[string]api.Value{"AND": no, "OR": yes}[sign]
		result := num(1 - decides.Num)
		for _, v := range []api.Value{a, b} {
			if v != null && truth(v.Num != 0) == decides {
				return decides, 0
			}
			if v == null {
				result = null
			}
		}
		return result, 0
	}
	if a == null || b == null {
		return null, 0
	}
	c := orderOf(a, b)
	switch sign {
	case "=":
		return truth(c == 0), 0
	case "<>":
		return truth(c != 0), 0
	case "<":
		return truth(c < 0), 0
	case "<=":
		return truth(c <= 0), 0
	case ">":
		return truth(c > 0), 0
	case ">=":
		return truth(c >= 0), 0
	}
	x, y, n := big.NewInt(int64(a.Num)), big.NewInt(int64(b.Num)), new(big.Int)
	if y.Sign() == 0 && (sign == "/" || sign == "%") {
		return null, 8
	}
	map[string]func(x, y *big.Int) *big.Int{"+": n.Add, "-": n.Sub, "*": n.Mul, "/": n.Quo, "%": n.Rem}[sign](x, y)
	if !n.IsInt64() {
		return null, 7
	}
	return num(int(n.Int64())), 0
}

// evalOf is what an expression comes to over a row of a scope.
func evalOf(scope []api.Table, e api.Expr, row []api.Value) (api.Value, api.Errno) {
	switch e.Kind {
	case 1:
		return e.Value, 0
	case 2:
		return row[numberOf(scope, e)], 0
	}
	var l []api.Value
	for _, arg := range e.Args {
		v, code := evalOf(scope, arg, row)
		if code != 0 {
			return null, code
		}
		l = append(l, v)
	}
	switch {
	case e.Kind == 3:
		return opOf(e.Op, l[0], l[1])
	case e.Kind == 6:
		return truth(l[0] == null), 0
	case l[0] == null:
		return null, 0
	case e.Kind == 4:
		return truth(l[0].Num == 0), 0
	}
	return opOf(10, num(0), l[0])
}

// told are errors in the order in which they are told; OK is none.
type told []api.Errno

func (l *told) say(e api.Errno) {
	if e != api.OK {
		*l = append(*l, e)
	}
}

// first is the one that is told.
func (l told) first() api.Errno { return append(l, api.OK)[0] }

// value is what an expression comes to, or null, if it has an error, which is said.
func (l *told) value(scope []api.Table, e api.Expr, row []api.Value) api.Value {
	v, code := evalOf(scope, e, row)
	l.say(code)
	return v
}

// true tells whether a condition is true.
func (l *told) true(scope []api.Table, e api.Expr, row []api.Value) bool {
	return l.value(scope, e, row).Num != 0
}

// noSelect tells whether Select must tell ErrArg.
func noSelect(s api.Statement, scope []api.Table, tables []rows) bool {
	has := 1
	if s.Join != "" {
		has = 2
	}
	return s.Kind != 6 || len(tables) != len(scope) || len(scope) != has
}

// joinedOf are the joined rows of which Where is true.
func joinedOf(l *told, s api.Statement, scope []api.Table, tables ...rows) rows {
	all := tables[0]
	if len(tables) == 2 {
		all = nil
		for i := range len(tables[0]) * len(tables[1]) {
			a, b := tables[0][i/len(tables[1])], tables[1][i%len(tables[1])]
			all = append(all, append(slices.Clone(a), b...))
		}
	}
	var left rows
	for _, row := range all {
		if len(s.On) == 1 && !l.true(scope, s.On[0], row) {
			continue
		}
		if len(s.Where) == 0 || l.true(scope, s.Where[0], row) {
			left = append(left, row)
		}
	}
	return left
}

// isGrouped tells whether a StSelect is grouped.
func isGrouped(s api.Statement) bool {
	for _, i := range s.Items {
		if i.Kind >= api.ItemRows {
			return true
		}
	}
	return len(s.Group) == 1
}

// plainOf is what a StSelect that is not grouped makes of rows.
func plainOf(l *told, s api.Statement, scope []api.Table, chosen rows) rows {
	type ordered struct {
		row   []api.Value
		order api.Value
	}
	var all []ordered
	for _, row := range chosen {
		var o ordered
		for _, i := range s.Items {
			if i.Kind == api.ItemAll {
				o.row = append(o.row, row...)
			} else {
				o.row = append(o.row, l.value(scope, i.Args[0], row))
			}
		}
		if len(s.Order) == 1 {
			o.order = l.value(scope, s.Order[0], row)
		}
		all = append(all, o)
	}
	sort.SliceStable(all, func(i, j int) bool {
		c := orderOf(all[i].order, all[j].order)
		return c < 0 && !s.Desc || c > 0 && s.Desc
	})
	var out rows
	for _, o := range all {
		out = append(out, o.row)
	}
	return out
}

// groupedOf is what a StSelect that is grouped makes of rows.
func groupedOf(l *told, s api.Statement, scope []api.Table, chosen rows) rows {
	var keys []api.Value               // of the groups
	counts := map[api.Value]int{}      // how many rows they have
	items := map[api.Value]([8]rows){} // of each row of a group what an item names, item by item
	if len(s.Group) == 0 {             // one group, also of no rows
		keys = append(keys, null)
	}
	for _, row := range chosen {
		key := null
		if len(s.Group) == 1 {
			key = l.value(scope, s.Group[0], row)
		}
		if !slices.Contains(keys, key) {
			keys = append(keys, key)
		}
		counts[key]++
		kept := items[key]
		for k, i := range s.Items {
			if i.Kind >= api.ItemCount {
				if v := l.value(scope, i.Args[0], row); v != null {
					kept[k] = append(kept[k], []api.Value{v})
				}
			}
		}
		items[key] = kept
	}
	slices.SortFunc(keys, orderOf)
	if s.Desc {
		slices.Reverse(keys)
	}
	var out rows
	for _, key := range keys {
		var row []api.Value
		for k, i := range s.Items {
			row = append(row, summaryOf(l, i.Kind, key, counts[key], slices.Concat(items[key][k]...)))
		}
		out = append(out, row)
	}
	return out
}

// summaryOf is what an item makes of a group, of which it names these values.
func summaryOf(l *told, kind int, key api.Value, count int, values []api.Value) api.Value {
	switch {
	case kind == api.ItemExpr:
		return key
	case kind == api.ItemRows:
		return num(count)
	case kind == api.ItemCount:
		return num(len(values))
	case len(values) == 0:
		return null
	case kind == api.ItemSum:
		sum := new(big.Int)
		for _, v := range values {
			if sum.Add(sum, big.NewInt(int64(v.Num))); !sum.IsInt64() {
				l.say(7)
			}
		}
		return num(int(sum.Int64()))
	}
	values = slices.Clone(values)
	slices.SortFunc(values, orderOf)
	if kind == api.ItemMin {
		return values[0]
	}
	return values[len(values)-1]
}

// selectOf is Select of a StSelect that is promised something.
func selectOf(s api.Statement, scope []api.Table, tables ...rows) (rows, api.Errno) {
	var l told
	chosen := joinedOf(&l, s, scope, tables...)
	make := plainOf
	if isGrouped(s) {
		make = groupedOf
	}
	out := make(&l, s, scope, chosen)
	if s.Limit != -1 && s.Limit < len(out) {
		out = out[:s.Limit]
	}
	if len(out) > 200 {
		l.say(16)
	}
	if l.first() != api.OK {
		return nil, l.first()
	}
	return out, 0
}

// noChange tells whether Change must tell ErrArg.
func noChange(s api.Statement, t api.Table, there rows) bool {
	for _, row := range slices.Concat(there, s.Rows) {
		if len(row) != len(t.Columns) {
			return true
		}
	}
	return s.Kind < 3 || s.Kind > 5 || s.Table != t.Name || t.Primary < 0 || t.Primary > len(t.Columns)-1
}

// faultsOf says what is wrong with a row beside others: nulls and doubles.
func faultsOf(t api.Table, row []api.Value, others rows) (nulls, doubles bool) {
	for i, c := range t.Columns {
		nulls = nulls || c.NotNull && row[i] == null
		for _, other := range others {
			doubles = doubles || c.Unique && row[i] != null && row[i] == other[i]
		}
	}
	return nulls, doubles
}

// changeOf is Change of a statement that is promised something.
func changeOf(s api.Statement, t api.Table, there rows) (rows, int, api.Errno) {
	var l told
	var out rows
	count := 0
	scope := []api.Table{t}
	sayIf := func(holds bool, e api.Errno) {
		if holds {
			l.say(e)
		}
	}
	meets := func(row []api.Value) bool { return len(s.Where) == 0 || l.true(scope, s.Where[0], row) }
	switch s.Kind {
	case api.StInsert:
		out = slices.Clone(there)
		for _, row := range s.Rows {
			nulls, doubles := faultsOf(t, row, out)
			sayIf(nulls, 14)
			sayIf(doubles, 13)
			sayIf(len(out) >= 48, 16)
			out = append(out, row)
			count++
		}
	case api.StUpdate:
		for _, row := range there {
			after := slices.Clone(row)
			if meets(row) {
				count++
				for _, set := range s.Sets {
					after[numberOf(scope, api.Expr{Name: set.Name})] = l.value(scope, set.Expr, row)
				}
				nulls, _ := faultsOf(t, after, nil)
				sayIf(nulls, 14)
			}
			out = append(out, after)
		}
		for i, row := range out {
			_, doubles := faultsOf(t, row, out[i+1:])
			sayIf(doubles, 13)
		}
	case api.StDelete:
		for _, row := range there {
			if meets(row) {
				count++
			} else {
				out = append(out, row)
			}
		}
	}
	if l.first() != api.OK {
		return nil, 0, l.first()
	}
	sort.SliceStable(out, func(i, j int) bool { return orderOf(out[i][t.Primary], out[j][t.Primary]) < 0 })
	return out, count, 0
}

// areRows tells whether these are a table's.
func areRows(t api.Table, l rows) bool {
	for i, row := range l {
		if len(row) != len(t.Columns) {
			return false
		}
		for k, v := range row {
			right := v == null || v == num(v.Num) || v == text(v.Text) && len(v.Text) <= 40
			if !right || v != null && v.Kind != t.Columns[k].Kind {
				return false
			}
		}
		if nulls, doubles := faultsOf(t, row, l[:i]); nulls || doubles || i > 0 && orderOf(l[i-1][t.Primary], row[t.Primary]) >= 0 {
			return false
		}
	}
	return len(l) <= 48
}

// promised tells whether something is promised of a statement over tables with rows.
func promised(s api.Statement, scope []api.Table, tables ...rows) bool {
	c := catalog.New()
	for i, t := range scope {
		if c.Add(t) != api.OK || !areRows(t, tables[i]) {
			return false
		}
	}
	if len(scope) == 0 || s.Table != scope[0].Name || len(scope) > 1 && s.Join != scope[1].Name {
		return false
	}
	return check.Statement(c, s) == api.OK
}

// alike tells whether two lists of rows are the same.
func alike(a, b rows) bool { return slices.EqualFunc(a, b, slices.Equal[[]api.Value]) }

// brief is something as it is told: of what is deep, or wide, the beginning.
func brief(what any) string {
	s := fmt.Sprintf("%+v", what)
	return s[:min(len(s), 1500)]
}

// holdSelect holds Select against the words, and tells what it answered.
func holdSelect(t *testing.T, s api.Statement, scope []api.Table, tables ...rows) (rows, api.Errno) {
	t.Helper()
	got, code := exec.Select(s, scope, tables...)
	if code != api.OK && len(got) > 0 {
		t.Fatalf("Select(%s): %s beside %d", brief(s), brief(got), code)
	}
	var want rows
	wantCode := api.ErrArg
	if !noSelect(s, scope, tables) {
		if !promised(s, scope, tables...) {
			return got, code
		}
		want, wantCode = selectOf(s, scope, tables...)
	}
	if code != wantCode || !alike(got, want) {
		t.Fatalf("Select(%s, %s, %s): %s, %d, not %s, %d", brief(s), brief(scope), brief(tables), brief(got), code, brief(want), wantCode)
	}
	return got, code
}

// holdChange holds Change against the words, and tells what it answered.
func holdChange(t *testing.T, s api.Statement, x api.Table, there rows) (rows, int, api.Errno) {
	t.Helper()
	got, count, code := exec.Change(s, x, there)
	if code != api.OK && (len(got) > 0 || count != 0) {
		t.Fatalf("Change(%s): %s, %d beside %d", brief(s), brief(got), count, code)
	}
	var want rows
	wantCount, wantCode := 0, api.ErrArg
	if !noChange(s, x, there) {
		if !promised(s, []api.Table{x}, there) {
			return got, count, code
		}
		want, wantCount, wantCode = changeOf(s, x, there)
		holdKept(t, s, x, there, got, code) // P16.4
	}
	if code != wantCode || count != wantCount || !alike(got, want) {
		t.Fatalf("Change(%s, %s, %s): %s, %d, %d, not %s, %d, %d", brief(s), brief(x), brief(there), brief(got), count, code, brief(want), wantCount, wantCode)
	}
	return got, count, code
}

// holdKept holds that what was answered keeps what the columns ask.
func holdKept(t *testing.T, s api.Statement, x api.Table, there, got rows, code api.Errno) {
	t.Helper()
	if code == api.OK && (!areRows(x, got) || len(got) > len(there)+len(s.Rows)) {
		t.Fatalf("Change(%s, %s, %s): %s are no rows of it", brief(s), brief(x), brief(there), brief(got))
	}
}
