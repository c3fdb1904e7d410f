package parse_test

import (
	"math/rand"
	"reflect"
	"slices"
	"strings"
	"testing"
	"unsafe"

	"vestry/api"
	"vestry/lex"
	"vestry/parse"
)

// hold holds what the package says of a source against what is worked out apart.
func hold(t *testing.T, s string) {
	t.Helper()
	holdScript(t, s)
	holdOne(t, s)
}

func holdScript(t *testing.T, s string) {
	t.Helper()
	l, f := parse.Script(s)
	want := faultOf("script", s)
	if f != want {
		t.Fatalf("Script(%q): %v, not %v", s, f, want)
	}
	if f.Code != api.OK && len(l) != 0 {
		t.Fatalf("Script(%q): %v beside %v", s, l, f)
	}
	if f.Code == api.OK && !likeStates(l, statesOf(s)) {
		t.Fatalf("Script(%q): %+v, not %+v", s, l, statesOf(s))
	}
}

func holdOne(t *testing.T, s string) {
	t.Helper()
	e, f := parse.One(s)
	want := faultOf("one", s)
	if f != want {
		t.Fatalf("One(%q): %v, not %v", s, f, want)
	}
	if f.Code != api.OK && !likeExpr(e, api.Expr{}) {
		t.Fatalf("One(%q): %+v beside %v", s, e, f)
	}
	if f.Code == api.OK && !likeExpr(e, exprOf(plainTokens(s))) {
		t.Fatalf("One(%q): %+v, not %+v", s, e, exprOf(plainTokens(s)))
	}
}

// maker makes random sources.
type maker struct{ *rand.Rand }

func (m maker) pick(l ...string) string { return l[m.Intn(len(l))] }
func (m maker) name() string            { return m.pick("a", "b", "t", "u1", "_", "select", "abcdefghijklmnop") }
func (m maker) maybe(s string) string   { return m.pick("", s) }

// some are from 1 to a number of pieces, with a sign between.
func (m maker) some(most int, sign string, one func() string) string {
	l := []string{one()}
	for len(l) < most && m.Intn(3) > 0 {
		l = append(l, one())
	}
	return strings.Join(l, " "+sign+" ")
}

func (m maker) literal() string {
	return m.pick("NULL", "5", "- 5", "-0", "9223372036854775807", "-9223372036854775807", "''", "'it''s'", "'NULL'", "';'", "')'", "','", "'WHERE'")
}

func (m maker) col() string {
	if m.Intn(3) == 0 {
		return m.name() + "." + m.name()
	}
	return m.name()
}

// expr is an expression of about a size; not all of them can be read.
func (m maker) expr(size int) string {
	if size <= 0 {
		return m.pick(m.literal(), m.col(), m.col())
	}
	switch m.Intn(9) {
	case 0:
		return "NOT " + m.expr(size-1)
	case 1:
		return "- " + m.expr(size-1)
	case 2, 3, 4:
		return "(" + m.expr(size-1) + ")"
	case 5:
		return m.expr(size-1) + " IS " + m.maybe("NOT ") + "NULL"
	}
	part := m.Intn(size)
	return m.expr(part) + " " + m.pick("OR", "AND", "=", "<>", "<", "<=", ">", ">=", "+", "-", "*", "/", "%", "+", "-", "*", "AND", "OR") + " " + m.expr(size-1-part)
}

// small is an expression that leaves room for others.
func (m maker) small() string { return m.expr(m.Intn(4)) }

func (m maker) column() string {
	return m.name() + m.pick(" INT", " TEXT") + m.maybe(" NOT NULL") + m.maybe(" UNIQUE")
}

func (m maker) row() string { return "(" + m.some(9, ",", m.literal) + ")" }
func (m maker) set() string { return m.name() + " = " + m.small() }

func (m maker) item() string {
	switch m.Intn(4) {
	case 0:
		return m.pick("*", "COUNT(*)")
	case 1:
		return m.pick("COUNT", "SUM", "MIN", "MAX") + "(" + m.small() + ")"
	}
	return m.small()
}

func (m maker) state() string {
	switch m.Intn(8) {
	case 0:
		return "CREATE TABLE " + m.name() + " (" + m.some(9, ",", m.column) + ", PRIMARY KEY (" + m.name() + "))"
	case 1:
		return "DROP TABLE " + m.name()
	case 2:
		return "INSERT INTO " + m.name() + " VALUES " + m.some(17, ",", m.row)
	case 3:
		return "UPDATE " + m.name() + " SET " + m.some(9, ",", m.set) + m.maybe(" WHERE "+m.small())
	case 4:
		return "DELETE FROM " + m.name() + m.maybe(" WHERE "+m.small())
	}
	return "SELECT " + m.some(9, ",", m.item) + " FROM " + m.name() + m.maybe(" JOIN "+m.name()+" ON "+m.small()) + m.maybe(" WHERE "+m.small()) +
		m.maybe(" GROUP BY "+m.col()) + m.maybe(" ORDER BY "+m.col()+m.maybe(" DESC")) + m.maybe(" LIMIT "+m.pick("0", "7"))
}

func (m maker) script() string { return m.some(9, ";", m.state) }

// pieces are one of each kind of token, and more.
func pieces() []string {
	return slices.Concat(lex.Words(), strings.Fields("<> <= >= ( ) , ; . * + - / % = < > a b 5 'x' ''"))
}

func TestOfSomeSources(t *testing.T) { // P9.1, P9.2
	m := maker{rand.New(rand.NewSource(1))}
	right := 0
	for range 3000 {
		s := m.script()
		holdScript(t, s)
		if _, f := parse.Script(s); f.Code == api.OK {
			right++
		}
		holdOne(t, m.expr(m.Intn(14)))
	}
	if right < 500 {
		t.Errorf("only %d scripts of 3000 could be read", right)
	}
}

func TestOfWrongSources(t *testing.T) { // P9.1, P9.2
	m := maker{rand.New(rand.NewSource(2))}
	all := pieces()
	for i := range 6000 {
		s := m.state()
		if i%2 == 0 {
			s = m.expr(m.Intn(10))
		}
		var l []string
		for _, one := range plainTokens(s) {
			l = append(l, lex.Write(one))
		}
		if len(l) == 0 { // the source was too long
			continue
		}
		for range 1 + m.Intn(2) {
			at := m.Intn(len(l))
			switch m.Intn(4) {
			case 0:
				l = slices.Delete(l, at, min(at+1, len(l)-1))
			case 1:
				l = slices.Insert(l, at, m.pick(all...))
			case 2:
				l[at] = m.pick(all...)
			case 3:
				other := m.Intn(len(l))
				l[at], l[other] = l[other], l[at]
			}
		}
		hold(t, strings.Join(l, " "))
	}
}

// shapes are scripts in which all rules stand.
var shapes = []string{
	"CREATE TABLE t (a INT NOT NULL UNIQUE, b TEXT, PRIMARY KEY (a))",
	"DROP TABLE t; INSERT INTO t VALUES (1, - 5), ('x', NULL)",
	"UPDATE t SET a = - a + 1, b = NOT (a) WHERE a IS NOT NULL",
	"DELETE FROM t WHERE a = - (b) OR NOT b",
	"SELECT *, COUNT(*), SUM(a), a.b * 2 FROM t JOIN u ON a = b WHERE a AND b GROUP BY a ORDER BY b DESC LIMIT 5",
	"SELECT a FROM t ORDER BY a.b LIMIT 5; SELECT MIN((a)) FROM t GROUP BY a.b",
	"a + b * (c - - d) = - 5 AND NOT e IS NULL OR f.g IS NOT NULL",
}

func TestOfEveryTokenInEachPlace(t *testing.T) { // P9.1, P9.2
	for _, s := range shapes {
		var l []string
		for _, one := range plainTokens(s) {
			l = append(l, lex.Write(one))
		}
		for at := range len(l) + 1 {
			hold(t, strings.Join(l[:at], " "))
			hold(t, strings.Join(l[at:], " "))
			for _, one := range pieces() {
				hold(t, strings.Join(slices.Insert(slices.Clone(l), at, one), " "))
				if at < len(l) {
					hold(t, strings.Join(slices.Replace(slices.Clone(l), at, at+1, one), " "))
				}
			}
		}
	}
}

func TestOfEveryShortExpression(t *testing.T) { // P9.2
	few := strings.Fields("a 5 - * = ( ) NOT IS NULL AND .")
	var grow func(s string, size int)
	grow = func(s string, size int) {
		holdOne(t, s)
		// Behind a fault that is not the end's nothing is seen any more.
		if _, f := parse.One(s); size == 6 || f.Code != api.OK && f.At < len(s) {
			return
		}
		for _, one := range few {
			grow(s+one+" ", size+1)
		}
	}
	grow("", 0)
}

func TestOfNestedSources(t *testing.T) { // P9.1, P9.2
	m := maker{rand.New(rand.NewSource(3))}
	for range 3000 {
		s := m.pick("a", "- 5", "a + b", "a IS NOT NULL", "NOT a", "", ")")
		for range 6 + m.Intn(8) {
			switch m.Intn(6) {
			case 0, 1:
				s = "(" + s + ")"
			case 2:
				s = "- " + s
			case 3:
				s = "NOT " + s
			case 4:
				s = "(" + s + ") " + m.pick("+", "*", "=", "AND", "OR") + " " + m.col()
			case 5:
				s = m.col() + " " + m.pick("+", "*", "=", "AND", "OR") + " (" + s + ")"
			}
		}
		holdOne(t, s)
		holdScript(t, "UPDATE t SET a = "+s)
		holdScript(t, "SELECT a, SUM("+s+") FROM t")
	}
}

// spread writes tokens with random blanks between, and tells where each one begins.
func (m maker) spread(l []api.Token) (string, []int) {
	var s strings.Builder
	var places []int
	blanks := func() {
		for m.Intn(3) == 0 {
			s.WriteString(m.pick(" ", "\t", "\n", "\r", " -- x ; ( '\n", "--\n", "\r\n"))
		}
	}
	blanks()
	for _, one := range l {
		if one.Kind != api.TokEnd {
			places = append(places, s.Len())
			s.WriteString(lex.Write(one))
			// Right behind a sign - a remark would begin a byte too early.
			s.WriteString(m.pick(" ", "\t", "\n", "\r"))
			blanks()
		}
	}
	return s.String(), append(places, s.Len())
}

func TestBlanks(t *testing.T) { // P9.4
	m := maker{rand.New(rand.NewSource(4))}
	all := pieces()
	for i := range 4000 {
		s := m.state() + m.maybe(" "+m.pick(all...))
		if i%2 == 0 {
			s = m.expr(m.Intn(9)) + m.maybe(" "+m.pick(all...))
		}
		tokens, f := lex.Tokens(s)
		wide, places := m.spread(tokens)
		if f.Code != api.OK || len(wide) > api.MaxSource {
			continue
		}
		moved := func(f api.Fault) api.Fault {
			if f.Code != api.OK {
				f.At = places[slices.IndexFunc(tokens, func(t api.Token) bool { return t.At == f.At })]
			}
			return f
		}
		l, f := parse.Script(s)
		if other, g := parse.Script(wide); !likeStates(l, other) || g != moved(f) {
			t.Fatalf("Script(%q): %v, %v; of %q: %v, %v", s, l, f, wide, other, g)
		}
		e, f := parse.One(s)
		if other, g := parse.One(wide); !likeExpr(e, other) || g != moved(f) {
			t.Fatalf("One(%q): %v, %v; of %q: %v, %v", s, e, f, wide, other, g)
		}
	}
}

func TestScriptsBehindEachOther(t *testing.T) { // P9.5
	m := maker{rand.New(rand.NewSource(5))}
	joined := 0
	for range 3000 {
		a, b := m.some(5, ";", m.state), m.some(5, ";", m.state)
		whole := a + m.pick(";", " ; ", "\n;") + b
		first, f := parse.Script(a)
		second, g := parse.Script(b)
		both, h := parse.Script(whole)
		switch {
		case len(whole) > api.MaxSource:
			continue
		case f.Code != api.OK:
			// A script that cannot be read makes the whole one that cannot be read, at the same place; but at its end.
			if h != f && f.At != len(a) {
				t.Fatalf("Script(%q): %v, not %v", whole, h, f)
			}
		case g.Code != api.OK:
			if h.Code == api.OK {
				t.Fatalf("Script(%q) is read, not %q", whole, b)
			}
		case len(first)+len(second) > api.MaxStatements:
			if h.Code != api.ErrLong {
				t.Fatalf("Script(%q): %v", whole, h)
			}
		default:
			joined++
			if !likeStates(both, slices.Concat(first, second)) || h != (api.Fault{}) {
				t.Fatalf("Script(%q): %v, %v, not %v, %v", whole, both, h, first, second)
			}
		}
	}
	if joined < 300 {
		t.Errorf("only %d pairs of 3000 could be read", joined)
	}
}

// memory are the pieces of memory, from a place to another, that lists and texts have within v.
func memory(v reflect.Value, out [][2]uintptr, texts []string) ([][2]uintptr, []string) {
	switch v.Kind() {
	case reflect.Slice:
		if v.Cap() > 0 {
			out = append(out, [2]uintptr{v.Pointer(), v.Pointer() + uintptr(v.Cap())*v.Type().Elem().Size()})
		}
		for i := range v.Len() {
			out, texts = memory(v.Index(i), out, texts)
		}
	case reflect.Struct:
		for i := range v.NumField() {
			out, texts = memory(v.Field(i), out, texts)
		}
	case reflect.String:
		texts = append(texts, v.String())
	}
	return out, texts
}

// within tells whether a text that is not empty begins in another one's memory.
func within(s, of string) bool {
	if s == "" {
		return false
	}
	at, from := uintptr(unsafe.Pointer(unsafe.StringData(s))), uintptr(unsafe.Pointer(unsafe.StringData(of)))
	return from <= at && at < from+uintptr(len(of))
}

// spoil writes over all lists within v, in all depths, their spare room too.
func spoil(v reflect.Value) {
	switch v.Kind() {
	case reflect.Slice:
		for i := range v.Len() {
			spoil(v.Index(i))
		}
		v = v.Slice(0, v.Cap())
		for i := range v.Len() {
			v.Index(i).SetZero()
		}
	case reflect.Struct:
		for i := range v.NumField() {
			spoil(v.Field(i))
		}
	}
}

// holdMemory holds that no two lists of an answer share memory, and no text is one of the source.
func holdMemory(t *testing.T, s string, answer any) {
	t.Helper()
	lists, texts := memory(reflect.ValueOf(answer), nil, nil)
	slices.SortFunc(lists, func(a, b [2]uintptr) int {
		if a[0] < b[0] {
			return -1
		}
		return 1
	})
	for i := range len(lists) - 1 {
		if lists[i][1] > lists[i+1][0] {
			t.Errorf("%q: two lists share memory", s)
		}
	}
	for _, one := range texts {
		if within(one, s) {
			t.Errorf("%q: %q is a piece of what was handed in", s, one)
		}
	}
}

func TestMemory(t *testing.T) { // P9.3
	m := maker{rand.New(rand.NewSource(6))}
	sources := slices.Clone(shapes)
	for range 300 {
		sources = append(sources, m.state(), m.expr(m.Intn(9)))
	}
	for _, one := range sources {
		s := strings.Clone(one)
		first, f := parse.Script(s)
		second, _ := parse.Script(s)
		if f.Code == api.OK {
			holdMemory(t, s, first)
			holdMemory(t, s, [][]api.Statement{first, second})
			spoil(reflect.ValueOf(first))
			if third, _ := parse.Script(s); !likeStates(second, statesOf(s)) || !likeStates(third, second) {
				t.Errorf("Script(%q) shares memory with an earlier answer", s)
			}
		}
		a, f := parse.One(s)
		b, _ := parse.One(s)
		if f.Code == api.OK {
			holdMemory(t, s, []api.Expr{a, b})
			spoil(reflect.ValueOf(&a).Elem())
			if c, _ := parse.One(s); !likeExpr(b, exprOf(plainTokens(s))) || !likeExpr(c, b) {
				t.Errorf("One(%q) shares memory with an earlier answer", s)
			}
		}
	}
}

func TestNothingIsKept(t *testing.T) { // W2
	for range 3 {
		wantFaultOfOne(t, strings.Repeat("(", 12), api.ErrNest, 11)
		wantOne(t, "((((((((((a))))))))))", col("a"))
		wantFault(t, "DROP TABLE t;", api.ErrForm, 13)
		wantScript(t, "DROP TABLE t", api.Statement{Kind: api.StDrop, Table: "t", Limit: -1})
		wantFault(t, "'", api.ErrEnd, 0)
	}
}

func FuzzSources(f *testing.F) { // P9.1, P9.2
	for _, s := range shapes {
		f.Add(s)
	}
	for _, c := range lists {
		f.Add(c.ahead + strings.Repeat(c.one+c.comma, c.most) + c.one + c.close)
	}
	f.Add(strings.Repeat("(", 11) + "a" + strings.Repeat(")", 11))
	f.Fuzz(hold)
}
