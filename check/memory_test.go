package check_test

import (
	"reflect"
	"slices"
	"strings"
	"testing"
	"unsafe"

	"vestry/api"
	"vestry/catalog"
	"vestry/check"
)

// roomy is something in memory of its own, in all depths, with spare room in
// each list, in which something stands.
func roomy[T any](x T) T {
	v := reflect.New(reflect.TypeOf(x)).Elem()
	v.Set(roomyValue(reflect.ValueOf(x)))
	return v.Interface().(T)
}

func roomyValue(v reflect.Value) reflect.Value {
	out := reflect.New(v.Type()).Elem()
	switch v.Kind() {
	case reflect.Struct:
		for i := range v.NumField() {
			out.Field(i).Set(roomyValue(v.Field(i)))
		}
	case reflect.Slice:
		out = reflect.MakeSlice(v.Type(), v.Len()+2, v.Len()+2)
		for i := range v.Len() {
			out.Index(i).Set(roomyValue(v.Index(i)))
			out.Index(v.Len()).Set(roomyValue(v.Index(i)))
		}
		out = out.Slice(0, v.Len())
	case reflect.String:
		out.SetString(strings.Clone(v.String()))
	default:
		out.Set(v)
	}
	return out
}

// region is memory that a list, with its spare room, or a text has.
type region struct {
	from, size uintptr
	text       bool
}

func (r region) meets(o region) bool {
	return r.size > 0 && o.size > 0 && r.from < o.from+o.size && o.from < r.from+r.size
}

// regions are all that something has, in all depths.
func regions(x any) []region {
	var l []region
	var walk func(v reflect.Value)
	walk = func(v reflect.Value) {
		switch v.Kind() {
		case reflect.Struct:
			for i := range v.NumField() {
				walk(v.Field(i))
			}
		case reflect.Slice:
			l = append(l, region{from: v.Pointer(), size: uintptr(v.Cap()) * v.Type().Elem().Size()})
			for i := range v.Cap() {
				walk(v.Slice(0, v.Cap()).Index(i))
			}
		case reflect.String:
			l = append(l, region{from: uintptr(unsafe.Pointer(unsafe.StringData(v.String()))), size: uintptr(v.Len()), text: true})
		}
	}
	walk(reflect.ValueOf(x))
	return l
}

// wantApart holds that an answer shares no memory with other things, and no two of its lists any.
func wantApart(t *testing.T, answer any, others ...any) {
	t.Helper()
	own := regions(answer)
	for i, r := range own {
		for _, o := range own[:i] {
			if r.meets(o) && !(r.text && o.text) {
				t.Fatalf("two lists of %+v share memory", answer)
			}
		}
		for _, other := range others {
			if slices.ContainsFunc(regions(other), r.meets) {
				t.Fatalf("%+v shares memory with %+v", answer, other)
			}
		}
	}
}

// full is something with the spare room of all its lists.
func full(v reflect.Value) reflect.Value {
	out := reflect.New(v.Type()).Elem()
	switch v.Kind() {
	case reflect.Struct:
		for i := range v.NumField() {
			out.Field(i).Set(full(v.Field(i)))
		}
	case reflect.Slice:
		if v.IsNil() {
			return v
		}
		out = reflect.MakeSlice(v.Type(), v.Cap(), v.Cap())
		for i := range v.Cap() {
			out.Index(i).Set(full(v.Slice(0, v.Cap()).Index(i)))
		}
	case reflect.String:
		out.SetString(strings.Clone(v.String()))
	default:
		out.Set(v)
	}
	return out
}

// unchanged holds that a call leaves something as it is, with its spare room.
func unchanged(t *testing.T, x any, call func()) {
	t.Helper()
	before := full(reflect.ValueOf(x)).Interface()
	call()
	if after := full(reflect.ValueOf(x)).Interface(); !reflect.DeepEqual(before, after) {
		t.Fatalf("%+v became %+v", before, after)
	}
}

// spoil writes over an expression, and over its spare room, in all depths.
func spoil(e *api.Expr) {
	l := e.Args[:cap(e.Args)]
	for i := range l {
		spoil(&l[i])
	}
	*e = api.Expr{Kind: 9, Op: 9, Table: "spoilt", Name: "spoilt", Value: api.Value{Kind: 9, Num: 9, Text: "spoilt"}}
}

func TestMemoryOfBind(t *testing.T) { // P12.3
	m := newMaker(7)
	for range 4000 {
		scope, e := roomy(m.anyTables()), roomy(m.expr(m.Intn(5)))
		want, kind, code := boundOf(scope, e)
		want = roomy(want)
		var first api.Expr
		unchanged(t, scope, func() {
			unchanged(t, e, func() {
				first, _, _ = check.Bind(scope, e)
				second, _, _ := check.Bind(scope, e)
				wantApart(t, first, scope, e, second)
				spoil(&second)
				if !like(first, want) {
					t.Fatalf("two answers share memory: %+v", first)
				}
			})
		})
		kept := roomy(e)
		spoil(&e)
		if !like(first, want) {
			t.Fatalf("the answer became %+v", first)
		}
		// Nothing is kept from call to call.
		if again, k, c := check.Bind(scope, kept); c != code || k != kind || !like(again, want) {
			t.Fatalf("bound again it is %+v, %d, %d", again, k, c)
		}
	}
}

func TestListsThatShareMemory(t *testing.T) { // P12.3, W6
	scope := []api.Table{bare("t", numColumn("n"), textColumn("s"))}
	args := []api.Expr{name("n"), num(2), text("a")}
	sum := api.Expr{Kind: api.ExprOp, Op: api.OpAdd, Args: args[:2]}
	e := op(api.OpEq, sum, sum)
	got, _, code := check.Bind(scope, e)
	if want := op(api.OpAdd, numbered(0), num(2)); code != api.OK || !like(got, op(api.OpEq, want, want)) {
		t.Fatalf("%+v, %d", got, code)
	}
	wantApart(t, got, e)
	if !like(args[2], text("a")) {
		t.Errorf("the spare room became %+v", args)
	}
}

func TestTextsAreNotKept(t *testing.T) { // P12.3
	// The bytes of a text may be the caller's to change, where it is made of them.
	room := []byte("ab")
	e := op(api.OpEq, text(unsafe.String(&room[0], 2)), null())
	got, _, code := check.Bind(nil, e)
	copy(room, "yz")
	if want := op(api.OpEq, text("ab"), null()); code != api.OK || !like(got, want) {
		t.Errorf("became %+v, %d", got, code)
	}
}

func TestMemoryOfStatement(t *testing.T) { // P12.3
	m := newMaker(8)
	for range 4000 {
		c := m.catalog()
		s := roomy(m.statement(c))
		if m.rare(4) {
			s = roomy(m.spoilt(s, m.statement(c)))
		}
		before := c.All()
		unchanged(t, s, func() { holdStatement(t, c, s) })
		if !reflect.DeepEqual(c.All(), before) {
			t.Fatalf("the catalog became %+v", c.All())
		}
	}
}

func TestStatementKeepsNothing(t *testing.T) { // P12.3
	c, other := catalogOf(t, exampleScope), catalog.New()
	for _, s := range rightStatements(t) {
		want := check.Statement(c, s)
		if e := check.Statement(other, s); e != faultOf(nil, s) {
			t.Errorf("%+v in an empty catalog: %d", s, e)
		}
		if e := check.Statement(c, s); e != want || e != api.OK {
			t.Errorf("%+v: %d, then %d", s, want, e)
		}
	}
	if len(other.All()) > 0 || len(c.All()) != 2 {
		t.Error("a catalog has changed")
	}
}

func TestEmptyListsAreAsNone(t *testing.T) { // W5
	scope := []api.Table{{Name: "u", Columns: []api.Column{}}, bare("t", numColumn("n"))}
	for _, e := range []api.Expr{num(1), null(), text("a"), name("n"), of("t", "n")} {
		want, kind, _ := check.Bind(scope, e)
		e.Args = []api.Expr{}
		if got, k, code := check.Bind(scope, e); code != api.OK || k != kind || !like(got, want) {
			t.Errorf("Bind(%+v): %+v, %d, %d", e, got, k, code)
		}
	}
	c := catalogOf(t, exampleScope)
	for _, s := range rightStatements(t) {
		v := reflect.ValueOf(&s).Elem()
		for i := range v.NumField() {
			if f := v.Field(i); f.Kind() == reflect.Slice && f.Len() == 0 {
				f.Set(reflect.MakeSlice(f.Type(), 0, 0))
			}
		}
		for i := range s.Items {
			if s.Items[i].Args == nil {
				s.Items[i].Args = []api.Expr{}
			}
		}
		wantStatement(t, c, api.OK, s)
	}
	s := statements(t, "SELECT COUNT(*) FROM t ORDER BY n")[0]
	s.Group = []api.Expr{}
	wantStatement(t, c, api.ErrForm, s)
}
