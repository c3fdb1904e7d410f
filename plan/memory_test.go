package plan_test

import (
	"cmp"
	"math/rand"
	"reflect"
	"slices"
	"strings"
	"testing"
	"unsafe"

	"vestry/api"
	"vestry/plan"
)

// spare is how many more than its length a roomy list of expressions holds.
const spare = 2

// roomy is an expression in memory of its own, in all depths, with spare room
// in each list, in which something stands.
func roomy(e api.Expr) api.Expr {
	e.Table, e.Name, e.Value.Text = strings.Clone(e.Table), strings.Clone(e.Name), strings.Clone(e.Value.Text)
	l := make([]api.Expr, 0, len(e.Args)+spare)
	for _, arg := range e.Args {
		l = append(l, roomy(arg))
	}
	for i := range spare {
		l = append(l, column(i))
	}
	e.Args = l[:len(e.Args)]
	return e
}

// whole is an expression with the spare room of a roomy one as more Args.
func whole(e api.Expr) api.Expr {
	var l []api.Expr
	for i, arg := range e.Args[:len(e.Args)+spare] {
		if i < len(e.Args) {
			arg = whole(arg)
		}
		l = append(l, arg)
	}
	e.Args = l
	return e
}

// roomyBytes are bytes in memory of their own with spare room, in which something stands.
func roomyBytes(b []byte) []byte {
	return []byte(string(b) + "spare")[:len(b)]
}

func roomySpan(s api.Span) api.Span {
	return api.Span{From: roomyBytes(s.From), To: roomyBytes(s.To), End: s.End}
}

// all are bytes with their spare room.
func all(b []byte) string { return string(b[:cap(b)]) }

// spoil writes over both ends, and over their spare room.
func spoil(s api.Span) {
	for _, b := range [][]byte{s.From, s.To} {
		b = b[:cap(b)]
		for i := range b {
			b[i] = '!'
		}
	}
}

// an extent is memory: from one place up to another.
type extent struct{ from, to uintptr }

func extentOf(b []byte) extent {
	at := uintptr(unsafe.Pointer(unsafe.SliceData(b)))
	return extent{at, at + uintptr(cap(b))}
}

// extentsOf is the memory of the ends of spans, with their spare room.
func extentsOf(spans ...api.Span) []extent {
	var l []extent
	for _, s := range spans {
		l = append(l, extentOf(s.From), extentOf(s.To))
	}
	return l
}

// textsOf is the memory of an expression's texts.
func textsOf(e api.Expr) []extent {
	at := uintptr(unsafe.Pointer(unsafe.StringData(e.Value.Text)))
	l := []extent{{at, at + uintptr(len(e.Value.Text))}}
	for _, arg := range e.Args {
		l = append(l, textsOf(arg)...)
	}
	return l
}

// wantApart holds that no two of them share any.
func wantApart(t *testing.T, l []extent) {
	t.Helper()
	l = slices.DeleteFunc(l, func(e extent) bool { return e.from == e.to })
	slices.SortFunc(l, func(a, b extent) int { return cmp.Compare(a.from, b.from) })
	for i := 1; i < len(l); i++ {
		if l[i].from < l[i-1].to {
			t.Fatal("two lists share memory")
		}
	}
}

// holdMemory holds that Span leaves what it is handed as it is, with its spare
// room, and answers new memory.
func holdMemory(t *testing.T, e api.Expr, column int) {
	t.Helper()
	e = roomy(e)
	before := whole(e)
	s, other := plan.Span(e, column), plan.Span(e, column)
	wantApart(t, append(textsOf(e), extentsOf(s, other)...))
	spoil(s)
	if !reflect.DeepEqual(whole(e), before) {
		t.Fatalf("%+v became %+v", before, e)
	}
	if want := spanOf(e, column); !alike(other, want) || !alike(hold(t, e, column), want) {
		t.Fatalf("Span(%s, %d) became %v, not %v", brief(e), column, other, want)
	}
	spoil(other)
	hold(t, e, column)
}

func TestMemoryOfSpans(t *testing.T) { // P15.3
	for o := api.OpOr; o <= api.OpMod; o++ {
		for _, v := range append(values(), wrongs()...) {
			e, turned := op(o, id, valued(v)), op(o, valued(v), id)
			holdMemory(t, e, 0)
			holdMemory(t, turned, 0)
			holdMemory(t, e, 1)
			holdMemory(t, and(e, turned), 0)
			holdMemory(t, and(e, op(api.OpEq, column(1), valued(null))), 0)
		}
	}
	m := maker{rand.New(rand.NewSource(17))}
	for range 20000 {
		holdMemory(t, m.expr(m.Intn(5)), m.Intn(4))
	}
}

// holdMeetMemory holds that Meet leaves both spans as they are, with their
// spare room, and answers new memory, that has what they had.
func holdMeetMemory(t *testing.T, a, b api.Span) {
	t.Helper()
	a, b = roomySpan(a), roomySpan(b)
	before := []string{all(a.From), all(a.To), all(b.From), all(b.To)}
	want := meetOf(a, b)
	s, other := plan.Meet(a, b), plan.Meet(a, b)
	wantApart(t, extentsOf(a, b, s, other))
	spoil(s)
	if !slices.Equal([]string{all(a.From), all(a.To), all(b.From), all(b.To)}, before) {
		t.Fatalf("%q became %v, %v", before, a, b)
	}
	if !alike(other, want) || !alike(plan.Meet(a, b), want) {
		t.Fatalf("Meet(%v, %v) became %v", a, b, other)
	}
	spoil(a)
	spoil(b)
	if !alike(other, want) {
		t.Fatalf("Meet became %v, not %v, with what was handed in", other, want)
	}
}

func TestMemoryOfMeet(t *testing.T) { // P15.3
	l := someSpans("", "a", "a\x00", "b", strings.Repeat("k", 100))
	for _, a := range l {
		for _, b := range l {
			holdMeetMemory(t, a, b)
		}
	}
}

func TestListsThatShareMemory(t *testing.T) { // P15.3, W6
	b := []byte("abcd")
	for _, end := range []bool{false, true} {
		for i := range b {
			for j := range b {
				x, y := api.Span{From: b[:i], To: b[:j], End: end}, api.Span{From: b[:j], To: b, End: true}
				want := meetOf(x, y)
				s, same := plan.Meet(x, y), plan.Meet(x, x)
				wantApart(t, append(extentsOf(s, same), extentOf(b)))
				spoil(same)
				if string(b) != "abcd" || !alike(s, want) {
					t.Fatalf("%q, %v, not %v", b, s, want)
				}
			}
		}
	}
	args := []api.Expr{id, valued(num(5)), id}
	e := and(op(api.OpGe, args[:2]...), op(api.OpGe, args[1:]...))
	k := keyOf(num(5))
	wantSpan(t, span(k, k+"\x00", true), e, 0)
	if !reflect.DeepEqual(args, []api.Expr{id, valued(num(5)), id}) {
		t.Errorf("became %+v", args)
	}
}

func TestTextsAreNotKept(t *testing.T) { // P15.3
	// The bytes of a text may be the caller's to change, where it is made of them.
	room := []byte("ab")
	e := op(api.OpEq, id, valued(text(unsafe.String(&room[0], 2))))
	s := plan.Span(e, 0)
	copy(room, "yz")
	if !alike(s, testOf("=", text("ab"))) {
		t.Errorf("became %v", s)
	}
	wantSpan(t, testOf("=", text("yz")), e, 0)
}

func TestNothingIsKept(t *testing.T) { // P15.3, W2
	for range 3 {
		for _, s := range []api.Span{plan.All(), plan.None(), plan.Span(id, 0), plan.Span(op(api.OpEq, id, valued(null)), 0)} {
			spoil(s)
			s.From, s.To = append(s.From, "!!"...), append(s.To, "!!"...)
		}
		if !alike(plan.All(), api.Span{}) || !alike(plan.None(), api.Span{End: true}) {
			t.Fatalf("All, None became %v, %v", plan.All(), plan.None())
		}
		wantAll(t, id)
		wantSpan(t, plan.None(), op(api.OpEq, id, valued(null)), 0)
	}
}

func TestEmptyListsAreAsNone(t *testing.T) { // W5
	empty := [][]byte{nil, {}}
	for _, from := range empty {
		for _, to := range empty {
			for _, end := range []bool{false, true} {
				s := api.Span{From: from, To: to, End: end}
				for _, other := range append(someSpans("", "a", "b"), s) {
					holdMeet(t, s, other)
					holdMeet(t, other, s)
				}
			}
		}
	}
	k := keyOf(num(5))
	five := api.Expr{Kind: api.ExprValue, Value: num(5), Args: []api.Expr{}}
	for _, args := range [][]api.Expr{nil, {}} {
		wantSpan(t, span(k, "", false), op(api.OpGe, api.Expr{Kind: api.ExprColumn, Value: num(0), Args: args}, five), 0)
		wantAll(t, op(api.OpGe, args...))
		wantAll(t, op(api.OpAnd, args...))
	}
}
