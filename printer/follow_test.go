package printer_test

import (
	"math/rand"
	"reflect"
	"slices"
	"strconv"
	"strings"
	"testing"
	"unsafe"

	"vestry/api"
	"vestry/lex"
	"vestry/parse"
	"vestry/printer"
)

// piece is an expression as it is written, worked out from its parts up: its
// text, its level (as in written), and how deep its deepest part stands in it.
type piece struct {
	text         string
	level, depth int
}

// from is a piece where only those from a level on may stand.
func (p piece) from(least int) piece {
	if p.level < least {
		return piece{"( " + p.text + " )", 7, p.depth + 1}
	}
	return p
}

// numberOf is a number as it is written, whatever it is.
func numberOf(n int) string {
	if n < 0 {
		return "- " + strings.TrimPrefix(strconv.Itoa(n), "-")
	}
	return strconv.Itoa(n)
}

// literalOf is a value as it is written, if it is one.
func literalOf(v api.Value) string {
	switch v.Kind {
	case api.KindNull:
		return "NULL"
	case api.KindNum:
		return numberOf(v.Num)
	case api.KindText:
		return "'" + strings.ReplaceAll(v.Text, "'", "''") + "'"
	}
	return "?"
}

// pieceOf is the piece of an expression; of one that is not right, it is one
// that is not read as that.
func pieceOf(e api.Expr) piece {
	var l []piece
	for _, one := range e.Args {
		l = append(l, pieceOf(one))
	}
	switch {
	case e.Kind == api.ExprValue:
		return piece{literalOf(e.Value), 7, 0}
	case e.Kind == api.ExprColumn && e.Table != "":
		return piece{e.Table + " . " + e.Name, 7, 0}
	case e.Kind == api.ExprColumn:
		return piece{e.Name, 7, 0}
	case e.Kind == api.ExprOp && len(l) == 2:
		for _, o := range written {
			if o.code == e.Op {
				return operationOf(o.text, o.level, l[0], l[1])
			}
		}
	case e.Kind == api.ExprNot && len(l) == 1 && e.Args[0].Kind == api.ExprNull && len(e.Args[0].Args) == 1:
		inner := pieceOf(e.Args[0].Args[0]).from(5)
		return piece{inner.text + " IS NOT NULL", tests, inner.depth}
	case e.Kind == api.ExprNot && len(l) == 1:
		inner := l[0].from(3)
		return piece{"NOT " + inner.text, 3, inner.depth + 1}
	case e.Kind == api.ExprNull && len(l) == 1:
		inner := l[0].from(5)
		return piece{inner.text + " IS NULL", tests, inner.depth}
	case e.Kind == api.ExprNeg && len(l) == 1:
		inner := l[0].from(7)
		if '0' <= inner.text[0] && inner.text[0] <= '9' {
			inner = inner.from(8)
		}
		return piece{"- " + inner.text, 7, inner.depth + 1}
	}
	return piece{"?", 7, 0}
}

// operationOf is the piece of an operator.
func operationOf(text string, level int, left, right piece) piece {
	least := level
	if level == tests {
		least = tests + 1
	}
	left, right = left.from(least), right.from(level+1)
	return piece{left.text + " " + text + " " + right.text, level, max(left.depth, right.depth)}
}

// made collects what a statement is written with.
type made struct {
	text  strings.Builder
	depth int
}

func (m *made) put(l ...string) {
	for _, s := range l {
		if m.text.Len() > 0 {
			m.text.WriteString(" ")
		}
		m.text.WriteString(s)
	}
}

func (m *made) expr(ahead string, l ...api.Expr) {
	for _, e := range l {
		p := pieceOf(e)
		if ahead != "" {
			m.put(ahead)
		}
		m.put(p.text)
		m.depth = max(m.depth, p.depth)
	}
}

// comma is what stands ahead of the ith of a list.
func (m *made) comma(i int) {
	if i > 0 {
		m.put(",")
	}
}

// state puts a statement, whatever it is; of one that is not right, it is one
// that is not read as that.
func (m *made) state(s api.Statement) {
	switch s.Kind {
	case api.StCreate:
		m.put("CREATE", "TABLE", s.Table, "(")
		for _, one := range s.Columns {
			kinds := map[int]string{api.KindNum: "INT", api.KindText: "TEXT"}
			m.put(one.Name, kinds[one.Kind])
			if one.NotNull {
				m.put("NOT", "NULL")
			}
			if one.Unique {
				m.put("UNIQUE")
			}
			m.put(",")
		}
		m.put("PRIMARY", "KEY", "(", s.Primary, ")", ")")
	case api.StDrop:
		m.put("DROP", "TABLE", s.Table)
	case api.StInsert:
		m.put("INSERT", "INTO", s.Table, "VALUES")
		for i, one := range s.Rows {
			m.comma(i)
			m.put("(")
			for k, v := range one {
				m.comma(k)
				m.put(literalOf(v))
			}
			m.put(")")
		}
	case api.StUpdate:
		m.put("UPDATE", s.Table, "SET")
		for i, one := range s.Sets {
			m.comma(i)
			m.expr(one.Name+" =", one.Expr)
		}
		m.expr("WHERE", s.Where...)
	case api.StDelete:
		m.put("DELETE", "FROM", s.Table)
		m.expr("WHERE", s.Where...)
	case api.StSelect:
		m.selects(s)
	default:
		m.put("?")
	}
}

func (m *made) selects(s api.Statement) {
	m.put("SELECT")
	for i, one := range s.Items {
		m.comma(i)
		words := map[int]string{api.ItemCount: "COUNT", api.ItemSum: "SUM", api.ItemMin: "MIN", api.ItemMax: "MAX"}
		switch one.Kind {
		case api.ItemAll:
			m.put("*")
		case api.ItemRows:
			m.put("COUNT", "(", "*", ")")
		case api.ItemExpr:
			m.expr("", one.Args...)
		default:
			m.put(words[one.Kind], "(")
			m.expr("", one.Args...)
			m.put(")")
		}
	}
	m.put("FROM", s.Table)
	if s.Join != "" {
		m.put("JOIN", s.Join)
	}
	m.expr("ON", s.On...)
	m.expr("WHERE", s.Where...)
	m.expr("GROUP BY", s.Group...)
	m.expr("ORDER BY", s.Order...)
	if s.Desc {
		m.put("DESC")
	}
	if s.Limit != -1 {
		m.put("LIMIT", numberOf(s.Limit))
	}
}

// alike tells whether two values are the same, where an empty list is as none.
func alike(a, b reflect.Value) bool {
	switch a.Kind() {
	case reflect.Slice:
		if a.Len() != b.Len() {
			return false
		}
		for i := range a.Len() {
			if !alike(a.Index(i), b.Index(i)) {
				return false
			}
		}
		return true
	case reflect.Struct:
		for i := range a.NumField() {
			if !alike(a.Field(i), b.Field(i)) {
				return false
			}
		}
		return true
	}
	return a.Equal(b)
}

func likeExpr(a, b api.Expr) bool { return alike(reflect.ValueOf(a), reflect.ValueOf(b)) }
func likeStates(a, b []api.Statement) bool {
	return alike(reflect.ValueOf(a), reflect.ValueOf(b))
}

// wantedOf is the error of what is right if it is read again, and the text that
// would be its.
func wantedOf(text string, depth int, right bool) (string, api.Errno) {
	switch {
	case !right:
		return "", api.ErrForm
	case depth > 10:
		return "", api.ErrNest
	case len(text) > 2000:
		return "", api.ErrLong
	}
	return text, api.OK
}

// holdExpr holds what is said of an expression that is right against its piece, and reads it.
func holdExpr(t *testing.T, e api.Expr) {
	t.Helper()
	p := pieceOf(e)
	want, code := wantedOf(p.text, p.depth, true)
	s, err := printer.Expr(e)
	if s != want || err != code {
		t.Fatalf("Expr(%+v): %q, %d, not %q, %d", e, s, err, want, code)
	}
	if err != api.OK {
		return
	}
	if back, f := parse.One(s); f.Code != api.OK || !likeExpr(back, e) {
		t.Fatalf("%q of %+v is read as %+v, %v", s, e, back, f)
	}
}

// holdScript holds what is said of statements, right or not, against what they
// are made of, and reads it.
func holdScript(t *testing.T, right bool, l ...api.Statement) {
	t.Helper()
	var m made
	for i, s := range l {
		if i > 0 {
			m.put(";")
		}
		m.state(s)
	}
	want, code := wantedOf(m.text.String(), m.depth, right)
	s, err := printer.Script(l...)
	if s != want || err != code {
		t.Fatalf("Script(%+v): %q, %d, not %q, %d", l, s, err, want, code)
	}
	if err != api.OK {
		return
	}
	if back, f := parse.Script(s); f.Code != api.OK || !likeStates(back, l) {
		t.Fatalf("%q of %+v is read as %+v, %v", s, l, back, f)
	}
}

// holdLean holds that no token of a text, nor any two (of a long one: no two
// brackets), may be left out, so that it is read as before. Each two tokens are
// one blank apart.
func holdLean(t *testing.T, s string, same func(s string) bool) {
	t.Helper()
	l, _ := lex.Tokens(s)
	l = l[:len(l)-1]
	if lex.Write(l...) != s {
		t.Fatalf("%q has other blanks", s)
	}
	for i := range l {
		for k := i; k < len(l); k++ {
			if len(l) > 40 && (l[i].Text != "(" || l[k].Text != ")") {
				continue
			}
			var fewer []api.Token
			for at, one := range l {
				if at != i && at != k {
					fewer = append(fewer, one)
				}
			}
			if other := lex.Write(fewer...); same(other) {
				t.Fatalf("%q is read as %q", other, s)
			}
		}
	}
}

func holdLeanExpr(t *testing.T, e api.Expr) {
	t.Helper()
	if s, err := printer.Expr(e); err == api.OK {
		holdLean(t, s, func(s string) bool {
			other, f := parse.One(s)
			return f.Code == api.OK && likeExpr(other, e)
		})
	}
}

func holdLeanScript(t *testing.T, l ...api.Statement) {
	t.Helper()
	if s, err := printer.Script(l...); err == api.OK {
		holdLean(t, s, func(s string) bool {
			other, f := parse.Script(s)
			return f.Code == api.OK && likeStates(other, l)
		})
	}
}

// grown are all expressions that are made of some by one more kind.
func grown(l []api.Expr) []api.Expr {
	var out []api.Expr
	for _, x := range l {
		out = append(out, not(x), neg(x), isNull(x))
		for _, y := range l {
			for _, o := range []int{api.OpOr, api.OpAnd, api.OpLt, api.OpSub, api.OpMul} {
				out = append(out, op(o, x, y))
			}
		}
	}
	return out
}

func TestOfEveryShortExpression(t *testing.T) { // P10.1, P10.4
	small := exprs(a, n(5), n(-5))
	middle := append(slices.Clone(small), grown(small)...)
	for _, e := range append(slices.Clone(middle), grown(middle)...) {
		holdExpr(t, e)
	}
	few := append(grown(exprs(a, n(0))), a, n(-5))
	for i, e := range grown(few) {
		holdLeanExpr(t, e)
		for _, outer := range exprs(not(e), neg(e), isNull(e), not(isNull(e)), op(api.OpEq, e, b), op(api.OpAdd, a, e)) {
			holdExpr(t, outer)
			if i%8 == 0 {
				holdLeanExpr(t, outer)
			}
		}
	}
}

// maker makes random things.
type maker struct{ *rand.Rand }

func pick[T any](m maker, l ...T) T { return l[m.Intn(len(l))] }

// some are from 1 to a number of things.
func some[T any](m maker, most int, one func() T) []T {
	l := []T{one()}
	for len(l) < most && m.Intn(3) > 0 {
		l = append(l, one())
	}
	return l
}

// maybe is one thing, or none.
func maybe[T any](m maker, one func() T) []T {
	if m.Intn(2) == 0 {
		return pick(m, nil, []T{})
	}
	return []T{one()}
}

func (m maker) name() string {
	return pick(m, "a", "b", "t", "u1", "_", "select", "abcdefghijklmnop")
}

func (m maker) value() api.Value {
	return pick(m, null, num(5), num(-5), num(0), num(api.MaxInt), num(-api.MaxInt), text(""), text("it's"), text(";"), text("( --"), text(strings.Repeat("'", 40)), text("\x00\n\xff"))
}

func (m maker) col() api.Expr {
	return colOf(pick(m, "", "", m.name()), m.name())
}

// expr is an expression of about a size.
func (m maker) expr(size int) api.Expr {
	if size <= 0 {
		return pick(m, m.col(), m.col(), val(m.value()))
	}
	switch m.Intn(8) {
	case 0:
		return not(m.expr(size - 1))
	case 1:
		return neg(m.expr(size - 1))
	case 2:
		return isNull(m.expr(size - 1))
	case 3:
		return not(isNull(m.expr(size - 1)))
	}
	part := m.Intn(size)
	return op(written[m.Intn(len(written))].code, m.expr(part), m.expr(size-1-part))
}

func (m maker) small() api.Expr { return m.expr(m.Intn(4)) }

func (m maker) item() api.Item {
	if m.Intn(3) == 0 {
		return api.Item{Kind: pick(m, api.ItemAll, api.ItemRows), Args: pick(m, nil, []api.Expr{})}
	}
	return itemOf(pick(m, api.ItemExpr, api.ItemExpr, api.ItemCount, api.ItemSum, api.ItemMin, api.ItemMax), m.small())
}

func (m maker) column() api.Column {
	return api.Column{Name: m.name(), Kind: pick(m, api.KindNum, api.KindText), NotNull: m.Intn(2) == 0, Unique: m.Intn(2) == 0}
}

func (m maker) row() []api.Value { return some(m, 8, m.value) }
func (m maker) set() api.Set     { return api.Set{Name: m.name(), Expr: m.small()} }

func (m maker) state() api.Statement {
	s := api.Statement{Kind: pick(m, 1, 2, 3, 4, 5, 6, 6, 6), Table: m.name(), Limit: -1}
	switch s.Kind {
	case api.StCreate:
		s.Columns, s.Primary = some(m, 8, m.column), m.name()
	case api.StInsert:
		s.Rows = some(m, 16, m.row)
	case api.StUpdate:
		s.Sets, s.Where = some(m, 8, m.set), maybe(m, m.small)
	case api.StDelete:
		s.Where = maybe(m, m.small)
	case api.StSelect:
		s.Items, s.Where, s.Group, s.Order = some(m, 8, m.item), maybe(m, m.small), maybe(m, m.col), maybe(m, m.col)
		s.Desc = len(s.Order) > 0 && m.Intn(2) == 0
		s.Limit = pick(m, -1, 0, 7, api.MaxInt)
		if s.On = maybe(m, m.small); len(s.On) > 0 {
			s.Join = m.name()
		}
	}
	return s
}

func TestOfSomeExprs(t *testing.T) { // P10.1, P10.4
	m := maker{rand.New(rand.NewSource(1))}
	told := map[api.Errno]int{}
	for range 6000 {
		e := m.expr(m.Intn(40))
		holdExpr(t, e)
		_, err := printer.Expr(e)
		told[err]++
	}
	for range 300 {
		// A row that is long, of parts that are not deep.
		e, o := a, pick(m, api.OpOr, api.OpAnd, api.OpAdd, api.OpMul)
		for range m.Intn(200) {
			e = op(o, e, m.small())
		}
		holdExpr(t, e)
		_, err := printer.Expr(e)
		told[err]++
	}
	for _, err := range []api.Errno{api.OK, api.ErrNest, api.ErrLong} {
		if told[err] < 50 {
			t.Errorf("%d was told %d times", err, told[err])
		}
	}
}

func TestOfNestedExprs(t *testing.T) { // P10.1, P10.4
	m := maker{rand.New(rand.NewSource(2))}
	for range 5000 {
		e := m.small()
		for range 4 + m.Intn(9) {
			switch m.Intn(6) {
			case 0:
				e = not(e)
			case 1:
				e = neg(e)
			case 2:
				e = isNull(e)
			case 3:
				e = not(isNull(e))
			case 4:
				e = op(written[m.Intn(len(written))].code, e, m.col())
			case 5:
				e = op(written[m.Intn(len(written))].code, val(m.value()), e)
			}
		}
		holdExpr(t, e)
		for _, s := range holding(e) {
			holdScript(t, true, s)
		}
	}
}

func TestOfSomeScripts(t *testing.T) { // P10.2, P10.4
	m := maker{rand.New(rand.NewSource(3))}
	for i := range 4000 {
		l := some(m, 8, m.state)
		holdScript(t, true, l...)
		if i%20 == 0 {
			holdLeanScript(t, pick(m, l...))
			holdLeanExpr(t, m.expr(m.Intn(8)))
		}
	}
}

// spoilt changes one piece of v, somewhere, into another one of a few.
func (m maker) spoilt(v reflect.Value) {
	switch v.Kind() {
	case reflect.Int:
		v.SetInt(pick[int64](m, -2, -1, 0, 1, 2, 3, 4, 5, 6, 7, 8, 13, 14, api.MinInt, api.MaxInt))
	case reflect.Bool:
		v.SetBool(!v.Bool())
	case reflect.String:
		v.SetString(pick(m, "", "a", "B", "a b", "a . b", "1", "NULL", "a -- b", strings.Repeat("a", 17), strings.Repeat("a", 41)))
	case reflect.Struct:
		m.spoilt(v.Field(m.Intn(v.NumField())))
	case reflect.Slice:
		size := v.Len()
		switch {
		case m.Intn(3) > 0 && size > 0:
			m.spoilt(v.Index(m.Intn(size)))
		case m.Intn(2) == 0 && size > 0:
			v.Set(v.Slice(0, size-1))
		case size > 0:
			for range pick(m, 1, 1, 8, 16) {
				v.Set(reflect.Append(v, v.Index(0)))
			}
		default:
			one := reflect.New(v.Type().Elem()).Elem()
			if m.Intn(2) == 0 && v.Type().Elem() == reflect.TypeFor[api.Expr]() {
				one.Set(reflect.ValueOf(m.col()))
			}
			v.Set(reflect.Append(v, one))
		}
	}
}

func TestRightIsWhatIsRead(t *testing.T) { // P10.1, P10.2
	m := maker{rand.New(rand.NewSource(4))}
	count := map[bool]int{}
	for range 40000 {
		s := m.state()
		for range 1 + m.Intn(2) {
			m.spoilt(reflect.ValueOf(&s).Elem())
		}
		var w made
		w.state(s)
		if w.text.Len() > 2000 || w.depth > 10 {
			continue
		}
		// What is not read as it is, is not right.
		back, f := parse.Script(w.text.String())
		right := f.Code == api.OK && likeStates(back, []api.Statement{s})
		count[right]++
		holdScript(t, right, s)
		for _, e := range slices.Concat(s.On, s.Where, s.Group, s.Order) {
			p := pieceOf(e)
			back, f := parse.One(p.text)
			want, code := wantedOf(p.text, p.depth, f.Code == api.OK && likeExpr(back, e))
			if got, err := printer.Expr(e); got != want || err != code {
				t.Fatalf("Expr(%+v): %q, %d, not %q, %d", e, got, err, want, code)
			}
		}
	}
	if count[true] < 1000 || count[false] < 10000 {
		t.Errorf("right and not: %v", count)
	}
}

// sources are some, written in ways of their own.
func sources() []string {
	return []string{
		"(1+2)*-3", "-(5)", "- -5", "NOT (a IS NULL)", "a=(b=c)", "((a))", "(a+b)+c", "a+(b+c)", "(a OR b) OR c", "a OR (b AND c)", "(a AND b) OR c", "NOT (NOT a)", "NOT (a = b)", "-(-(a))", "-(-5)", "-0", "-(-0)", "007",
		"(a) IS NOT NULL", "(NOT (a IS NULL)) IS NULL", "NOT ((a IS NOT NULL))", "a.b", "(((((((((((a)))))))))))", "((((((((((a))))))))))", "'it''s'", "a -- b", "(a*b)/(c*d)", "a-(b-c)-(-d)",
		"CREATE TABLE t(a INT,b TEXT NOT NULL UNIQUE,PRIMARY KEY(a))", "DROP TABLE t -- u", "INSERT INTO t VALUES(1,-0,'x',NULL),(-5)", "UPDATE t SET a=(b=c),b=((1)) WHERE (NOT (a))",
		"DELETE FROM t;DELETE FROM t WHERE((a))", "SELECT *,COUNT(*),COUNT((a)),SUM(-(a)),MIN((a+b)*c),MAX(a OR b),(a) FROM t JOIN u ON(a=b)WHERE(a)OR(b)GROUP BY a.b ORDER BY c DESC LIMIT 007",
		"SELECT a FROM t ORDER BY a LIMIT 0", strings.Repeat("(a)+", 400) + "a", "DROP TABLE t;" + strings.Repeat("DROP TABLE t;", 7) + "DROP TABLE t",
	}
}

// holdSource holds what follows of a source that can be read.
func holdSource(t *testing.T, source string) {
	t.Helper()
	if l, f := parse.Script(source); f.Code == api.OK {
		s, err := printer.Script(l...)
		back, g := parse.Script(s)
		again, other := printer.Script(back...)
		switch {
		case err == api.ErrLong && s == "":
			// With a blank between each two tokens it may have become too long, and nothing else.
			holdScript(t, true, l...)
		case err != api.OK || g.Code != api.OK || !likeStates(back, l):
			t.Fatalf("%q is written as %q, %d, and read as %+v, %v", source, s, err, back, g)
		case again != s || other != api.OK:
			t.Fatalf("%q is written as %q, then as %q, %d", source, s, again, other)
		}
	}
	if e, f := parse.One(source); f.Code == api.OK {
		s, err := printer.Expr(e)
		back, g := parse.One(s)
		again, other := printer.Expr(back)
		switch {
		case err == api.ErrLong && s == "":
			holdExpr(t, e)
		case err != api.OK || g.Code != api.OK || !likeExpr(back, e):
			t.Fatalf("%q is written as %q, %d, and read as %+v, %v", source, s, err, back, g)
		case again != s || other != api.OK:
			t.Fatalf("%q is written as %q, then as %q, %d", source, s, again, other)
		}
	}
}

// bracketed is an expression with brackets at random places, and other blanks.
func (m maker) bracketed(e api.Expr) string {
	s := pieceOf(e).text
	if len(e.Args) > 0 && m.Intn(2) == 0 {
		var texts []string
		for _, one := range e.Args {
			texts = append(texts, "("+m.bracketed(one)+")")
		}
		switch e.Kind {
		case api.ExprNot:
			s = "NOT" + texts[0]
		case api.ExprNeg:
			s = "-" + texts[0]
		case api.ExprNull:
			s = texts[0] + "IS NULL"
		default:
			at := slices.IndexFunc(written, func(o operator) bool { return o.code == e.Op })
			s = texts[0] + written[at].text + texts[1]
		}
	}
	if m.Intn(3) == 0 {
		s = "(" + s + ")"
	}
	return s
}

func TestWhatWasRead(t *testing.T) { // P10.4, P10.5
	for _, s := range sources() {
		holdSource(t, s)
	}
	m := maker{rand.New(rand.NewSource(5))}
	read := 0
	for range 8000 {
		e := m.expr(m.Intn(8))
		s := m.bracketed(e)
		if back, f := parse.One(s); f.Code == api.OK {
			read++
			if !likeExpr(back, e) {
				t.Fatalf("%q is not read as %+v", s, e)
			}
			want, _ := printer.Expr(e)
			if got, err := printer.Expr(back); got != want || err != api.OK {
				t.Fatalf("%q is written as %q, %d, not as %q", s, got, err, want)
			}
		}
		holdSource(t, s)
		holdSource(t, "DELETE FROM t WHERE"+" "+s+";SELECT("+s+"),MAX("+s+")FROM t")
	}
	if read < 4000 {
		t.Errorf("only %d of 8000 were read", read)
	}
}

func TestEmptyListsAreAsNone(t *testing.T) { // W5
	m := maker{rand.New(rand.NewSource(6))}
	var fill func(v reflect.Value)
	fill = func(v reflect.Value) {
		switch v.Kind() {
		case reflect.Slice:
			if v.Len() == 0 {
				v.Set(reflect.MakeSlice(v.Type(), 0, m.Intn(2)))
			}
			for i := range v.Len() {
				fill(v.Index(i))
			}
		case reflect.Struct:
			for i := range v.NumField() {
				fill(v.Field(i))
			}
		}
	}
	for range 500 {
		s, e := m.state(), m.small()
		text, err := printer.Script(s)
		fill(reflect.ValueOf(&s).Elem())
		if other, code := printer.Script(s); other != text || code != err {
			t.Fatalf("with empty lists: %q, %d, not %q, %d", other, code, text, err)
		}
		text, err = printer.Expr(e)
		fill(reflect.ValueOf(&e).Elem())
		if other, code := printer.Expr(e); other != text || code != err {
			t.Fatalf("with empty lists: %q, %d, not %q, %d", other, code, text, err)
		}
	}
}

// roomy is v in memory of its own, its lists with spare room in which something stands.
func roomy(v reflect.Value, other api.Expr) reflect.Value {
	out := reflect.New(v.Type()).Elem()
	switch v.Kind() {
	case reflect.Slice:
		out.Set(reflect.MakeSlice(v.Type(), v.Len()+2, v.Len()+2))
		for i := range v.Len() {
			out.Index(i).Set(roomy(v.Index(i), other))
		}
		if v.Type() == reflect.TypeOf(other.Args) {
			for i := v.Len(); i < out.Len(); i++ {
				out.Index(i).Set(reflect.ValueOf(other))
			}
		}
		out.Set(out.Slice(0, v.Len()))
	case reflect.Struct:
		for i := range v.NumField() {
			out.Field(i).Set(roomy(v.Field(i), other))
		}
	case reflect.String:
		out.SetString(strings.Clone(v.String()))
	default:
		out.Set(v)
	}
	return out
}

// whole is v with the spare room of all its lists.
func whole(v reflect.Value) reflect.Value {
	out := reflect.New(v.Type()).Elem()
	switch v.Kind() {
	case reflect.Slice:
		full := v.Slice(0, v.Cap())
		out.Set(reflect.MakeSlice(v.Type(), v.Cap(), v.Cap()))
		for i := range full.Len() {
			out.Index(i).Set(whole(full.Index(i)))
		}
	case reflect.Struct:
		for i := range v.NumField() {
			out.Field(i).Set(whole(v.Field(i)))
		}
	default:
		out.Set(v)
	}
	return out
}

// textsOf are all texts in v.
func textsOf(v reflect.Value) []string {
	var l []string
	switch v.Kind() {
	case reflect.Slice:
		for i := range v.Len() {
			l = append(l, textsOf(v.Index(i))...)
		}
	case reflect.Struct:
		for i := range v.NumField() {
			l = append(l, textsOf(v.Field(i))...)
		}
	case reflect.String:
		l = append(l, v.String())
	}
	return l
}

// within tells whether a text that is not empty begins in another one's memory.
func within(s, of string) bool {
	if s == "" {
		return false
	}
	at, from := uintptr(unsafe.Pointer(unsafe.StringData(s))), uintptr(unsafe.Pointer(unsafe.StringData(of)))
	return from <= at && at < from+uintptr(len(of))
}

// holdMemory holds that what is handed in stays as it is, and the answer is new.
func holdMemory(t *testing.T, given any, call func() string) {
	t.Helper()
	v := reflect.ValueOf(given)
	before := whole(v).Interface()
	s := call()
	if !reflect.DeepEqual(before, whole(v).Interface()) {
		t.Fatalf("%+v was changed", given)
	}
	for _, one := range textsOf(v) {
		if within(s, one) || within(one, s) {
			t.Fatalf("%q shares memory with what was handed in", s)
		}
	}
	if other := call(); other != s || within(other, s) {
		t.Fatalf("%q shares memory with an earlier answer", s)
	}
}

func TestMemory(t *testing.T) { // P10.3, W6
	m := maker{rand.New(rand.NewSource(7))}
	for i := range 1000 {
		e := roomy(reflect.ValueOf(m.expr(i%12)), c).Interface().(api.Expr)
		holdMemory(t, e, func() string {
			s, _ := printer.Expr(e)
			return s
		})
		l := roomy(reflect.ValueOf(some(m, 9, m.state)), c).Interface().([]api.Statement)
		holdMemory(t, l, func() string {
			s, _ := printer.Script(l...)
			return s
		})
	}
	for _, e := range exprs(a, col("abcdefghijklmnop"), val(text("abc")), val(null)) {
		holdMemory(t, e, func() string {
			s, _ := printer.Expr(e)
			return s
		})
	}
	// What is done to what was handed in is not seen in the answer.
	args := exprs(a, b)
	s, _ := printer.Expr(api.Expr{Kind: api.ExprOp, Op: api.OpAdd, Args: args})
	args[0], args[1] = n(5), n(6)
	if s != "a + b" {
		t.Errorf("the answer became %q", s)
	}
}

func TestNothingIsKept(t *testing.T) { // W2
	for range 3 {
		wantErr(t, nested(11, a, not), api.ErrNest)
		wantExpr(t, nested(10, a, not), strings.Repeat("NOT ", 10)+"a")
		wantScriptErr(t, api.ErrForm, drop, api.Statement{})
		wantScript(t, "DROP TABLE t", drop)
		wantErr(t, longExpr(2001), api.ErrLong)
		wantExpr(t, a, "a")
	}
}

func FuzzSources(f *testing.F) { // P10.4, P10.5
	for _, s := range sources() {
		f.Add(s)
	}
	f.Fuzz(func(t *testing.T, s string) {
		holdSource(t, s)
		if e, fault := parse.One(s); fault.Code == api.OK {
			holdExpr(t, e)
			holdLeanExpr(t, e)
		}
	})
}
