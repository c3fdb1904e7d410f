package eval_test

import (
	"math/rand"
	"reflect"
	"slices"
	"strings"
	"testing"
	"unsafe"

	"vestry/api"
	"vestry/eval"
)

// spare is how many more than its length a roomy list holds.
const spare = 2

// roomy is an expression in memory of its own, in all depths, with spare room
// in each list, in which something stands.
func roomy(e api.Expr) api.Expr {
	e.Table, e.Name, e.Value.Text = strings.Clone(e.Table), strings.Clone(e.Name), strings.Clone(e.Value.Text)
	l := make([]api.Expr, 0, len(e.Args)+spare)
	for _, arg := range e.Args {
		l = append(l, roomy(arg))
	}
	for i := range spare {
		l = append(l, column(i))
	}
	e.Args = l[:len(e.Args)]
	return e
}

// roomyRow is a row in memory of its own, with spare room in which something stands.
func roomyRow(row []api.Value) []api.Value {
	l := make([]api.Value, 0, len(row)+spare)
	for _, v := range row {
		v.Text = strings.Clone(v.Text)
		l = append(l, v)
	}
	for i := range spare {
		l = append(l, num(i))
	}
	return l[:len(row)]
}

// all is an expression with the spare room of a roomy one as more Args.
func all(e api.Expr) api.Expr {
	var l []api.Expr
	for i, arg := range e.Args[:len(e.Args)+spare] {
		if i < len(e.Args) {
			arg = all(arg)
		}
		l = append(l, arg)
	}
	e.Args = l
	return e
}

// begins tells whether a text that is not empty begins in another one's memory.
func begins(s, in string) bool {
	at, from := uintptr(unsafe.Pointer(unsafe.StringData(s))), uintptr(unsafe.Pointer(unsafe.StringData(in)))
	return s != "" && from <= at && at < from+uintptr(len(in))
}

// shares tells whether a text has memory of an expression or a row.
func shares(s string, e api.Expr, row []api.Value) bool {
	if begins(s, e.Value.Text) || slices.ContainsFunc(row, func(v api.Value) bool { return begins(s, v.Text) }) {
		return true
	}
	return slices.ContainsFunc(e.Args, func(arg api.Expr) bool { return shares(s, arg, nil) })
}

// holdMemory holds that Eval and True leave what they are handed as it is, with
// its spare room, and answer new memory.
func holdMemory(t *testing.T, e api.Expr, row []api.Value) {
	t.Helper()
	e, row = roomy(e), roomyRow(row)
	before, rowBefore := all(e), slices.Clone(row[:len(row)+spare])
	v, code := eval.Eval(e, row)
	is, trueCode := eval.True(e, row)
	again, _ := eval.Eval(e, row)
	if !reflect.DeepEqual(all(e), before) || !slices.Equal(row[:len(row)+spare], rowBefore) {
		t.Fatalf("%+v, %+v became %+v, %+v", before, rowBefore, e, row)
	}
	if shares(v.Text, e, row) || begins(v.Text, again.Text) {
		t.Fatalf("Eval(%+v, %+v): %+v shares memory with an argument, or another answer", e, row, v)
	}
	// Nothing is kept from call to call.
	eval.Eval(op(api.OpAdd, column(0), valued(num(1))), []api.Value{num(77)})
	eval.True(valued(text("other")), nil)
	eval.Op(api.OpLt, text("x"), text("y"))
	if w, c := eval.Eval(roomy(e), roomyRow(row)); w != v || c != code || again != v {
		t.Fatalf("Eval(%+v, %+v): %+v, %d, then %+v, %d", e, row, v, code, w, c)
	}
	if w, c := eval.True(e, row); w != is || c != trueCode {
		t.Fatalf("True(%+v, %+v): %v, %d, then %v, %d", e, row, is, trueCode, w, c)
	}
}

func TestMemory(t *testing.T) { // P13.4
	m := maker{rand.New(rand.NewSource(5))}
	for range 20000 {
		holdMemory(t, m.expr(m.Intn(5)), m.row())
	}
	for _, v := range values() {
		holdMemory(t, valued(v), []api.Value{v})
		holdMemory(t, column(1), []api.Value{null, v})
	}
}

func TestTextsAreNotKept(t *testing.T) { // P13.4
	// The bytes of a text may be the caller's to change, where it is made of them.
	for _, inRow := range []bool{false, true} {
		room := []byte("ab")
		e, row := valued(text(unsafe.String(&room[0], 2))), []api.Value{num(5)}
		if inRow {
			e, row = column(0), []api.Value{e.Value}
		}
		v, code := eval.Eval(e, row)
		copy(room, "yz")
		if v != text("ab") || code != api.OK {
			t.Errorf("became %+v, %d", v, code)
		}
		if w, code := eval.Eval(e, row); inRow && (w != text("yz") || code != api.OK) {
			t.Errorf("an earlier text is told: %+v, %d", w, code)
		}
	}
}

func TestEmptyListsAreAsNone(t *testing.T) { // W5
	for kind := -1; kind <= 8; kind++ {
		for _, v := range []api.Value{null, num(0), text("a"), {Kind: 9}} {
			with, without := api.Expr{Kind: kind, Op: api.OpAdd, Value: v, Args: []api.Expr{}}, api.Expr{Kind: kind, Op: api.OpAdd, Value: v}
			a, code := hold(t, with, nil)
			b, other := hold(t, without, []api.Value{})
			if a != b || code != other {
				t.Errorf("%+v: %+v, %d, but %+v, %d", with, a, code, b, other)
			}
		}
	}
}

func TestListsThatShareMemory(t *testing.T) { // W6
	args := []api.Expr{valued(num(2)), valued(text("a")), valued(num(3))}
	same := op(api.OpLt, args[:2]...)
	same.Args[1] = valued(num(3))
	e := op(api.OpAdd, same, same)
	wantEval(t, num(2), e)
	if !reflect.DeepEqual(args, []api.Expr{valued(num(2)), valued(num(3)), valued(num(3))}) {
		t.Errorf("became %+v", args)
	}
	wantEval(t, num(1), op(api.OpLt, args[:2]...))
}
