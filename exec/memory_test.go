package exec_test

import (
	"cmp"
	"reflect"
	"slices"
	"strings"
	"testing"
	"unsafe"

	"vestry/api"
	"vestry/exec"
)

// roomy is something in memory of its own, in all depths, with spare room in
// each list, in which something stands.
func roomy[T any](x T) T {
	v := reflect.New(reflect.TypeOf(x)).Elem()
	v.Set(roomyValue(reflect.ValueOf(x)))
	return v.Interface().(T)
}

func roomyValue(v reflect.Value) reflect.Value {
	out := reflect.New(v.Type()).Elem()
	switch v.Kind() {
	case reflect.Struct:
		for i := range v.NumField() {
			out.Field(i).Set(roomyValue(v.Field(i)))
		}
	case reflect.Slice:
		out = reflect.MakeSlice(v.Type(), v.Len()+2, v.Len()+2)
		for i := range v.Len() {
			out.Index(i).Set(roomyValue(v.Index(i)))
			out.Index(v.Len()).Set(roomyValue(v.Index(i)))
		}
		out = out.Slice(0, v.Len())
	case reflect.String:
		out.SetString(strings.Clone(v.String()))
	default:
		out.Set(v)
	}
	return out
}

// region is memory that a list, with its spare room, or a text has; own is
// that of an answer.
type region struct {
	from, to uintptr
	own      bool
}

// regions are all that something has, in all depths, also in its spare room.
func regions(x any, own bool) []region {
	var l []region
	add := func(from, size uintptr) {
		if size > 0 {
			l = append(l, region{from, from + size, own})
		}
	}
	var walk func(v reflect.Value)
	walk = func(v reflect.Value) {
		switch v.Kind() {
		case reflect.Struct:
			for i := range v.NumField() {
				walk(v.Field(i))
			}
		case reflect.Slice:
			add(v.Pointer(), uintptr(v.Cap())*v.Type().Elem().Size())
			for i := range v.Cap() {
				walk(v.Slice(0, v.Cap()).Index(i))
			}
		case reflect.String:
			add(uintptr(unsafe.Pointer(unsafe.StringData(v.String()))), uintptr(v.Len()))
		}
	}
	walk(reflect.ValueOf(x))
	return l
}

// wantApart holds that an answer shares no memory with other things, and no two
// of its parts any.
func wantApart(t *testing.T, answer rows, others ...any) {
	t.Helper()
	l := regions(answer, true)
	for _, other := range others {
		l = append(l, regions(other, false)...)
	}
	slices.SortFunc(l, func(a, b region) int { return cmp.Compare(a.from, b.from) })
	ends := map[bool]uintptr{} // of what is the answer's own, and of what is not
	for _, r := range l {
		if r.from < ends[true] || r.own && r.from < ends[false] {
			t.Fatalf("%s shares memory within itself, or with others", brief(answer))
		}
		ends[r.own] = max(ends[r.own], r.to)
	}
}

// full is something with the spare room of all its lists.
func full(v reflect.Value) reflect.Value {
	out := reflect.New(v.Type()).Elem()
	switch v.Kind() {
	case reflect.Struct:
		for i := range v.NumField() {
			out.Field(i).Set(full(v.Field(i)))
		}
	case reflect.Slice:
		if v.IsNil() {
			return v
		}
		out = reflect.MakeSlice(v.Type(), v.Cap(), v.Cap())
		for i := range v.Cap() {
			out.Index(i).Set(full(v.Slice(0, v.Cap()).Index(i)))
		}
	case reflect.String:
		out.SetString(strings.Clone(v.String()))
	default:
		out.Set(v)
	}
	return out
}

// unchanged holds that a call leaves things as they are, with their spare room.
func unchanged(t *testing.T, call func(), args ...any) {
	t.Helper()
	var before []any
	for _, x := range args {
		before = append(before, full(reflect.ValueOf(x)).Interface())
	}
	call()
	for i, x := range args {
		if after := full(reflect.ValueOf(x)).Interface(); !reflect.DeepEqual(before[i], after) {
			t.Fatalf("%s became %s", brief(before[i]), brief(after))
		}
	}
}

// spoil writes over rows, and over their spare room.
func spoil(l rows) {
	l = l[:cap(l)]
	for i, row := range l {
		row = row[:cap(row)]
		for k := range row {
			row[k] = text("spoilt")
		}
		l[i] = nil
	}
}

// holdMemory holds what a call, over arguments that are roomy, answers and leaves.
func holdMemory(t *testing.T, call func() (rows, int, api.Errno), tables []rows, args ...any) {
	t.Helper()
	args = append(args, tables)
	var first rows
	var n int
	var code api.Errno
	unchanged(t, func() {
		first, n, code = call()
		second, _, _ := call()
		wantApart(t, first, append(args, second)...)
		spoil(second)
	}, args...)
	want := roomy(first)
	// Nothing is kept from call to call, and nothing of what was handed in.
	kept := roomy(tables)
	for _, l := range tables {
		spoil(l)
	}
	if !alike(first, want) {
		t.Fatalf("the answer became %s, not %s", brief(first), brief(want))
	}
	call()
	copy(tables, kept)
	if again, m, other := call(); !alike(again, want) || m != n || other != code {
		t.Fatalf("then %s, %d, %d, not %s, %d, %d", brief(again), m, other, brief(want), n, code)
	}
}

func TestMemoryOfSelect(t *testing.T) { // P16.3
	m := newMaker(9)
	for range 2000 {
		scope, all := m.scope()
		s := m.selection(scope)
		if m.rare(9) {
			s = m.spoilt(s, len(scope[0].Columns))
		}
		s, scope, all = roomy(s), roomy(scope), roomy(all)
		holdMemory(t, func() (rows, int, api.Errno) {
			got, code := exec.Select(s, scope, all...)
			return got, 0, code
		}, all, s, scope)
	}
}

func TestMemoryOfChange(t *testing.T) { // P16.3
	m := newMaker(10)
	for range 2000 {
		x := m.table("t")
		s, there := m.change(x), m.rows(x, pick(m, 0, 3, 8, 20))
		if m.rare(9) {
			s = m.spoilt(s, len(x.Columns))
		}
		s, x = roomy(s), roomy(x)
		all := roomy([]rows{there})
		holdMemory(t, func() (rows, int, api.Errno) { return exec.Change(s, x, all[0]) }, all, s, x)
	}
}

func TestRowsThatArePutInAreNotKept(t *testing.T) { // P16.3
	x := tabled(t, "t", "id INT, s TEXT, PRIMARY KEY (id)")
	s := roomy(statement(t, "INSERT INTO t VALUES (2, 'b'), (1, 'a')"))
	got, _, _ := exec.Change(s, x, nil)
	spoil(s.Rows)
	if want := written(t, "(1, 'a'), (2, 'b')"); !alike(got, want) {
		t.Errorf("became %v", got)
	}
}

func TestListsThatShareMemory(t *testing.T) { // P16.3, W6
	// Rows may be cut from one list, and one row may be there twice.
	values := []api.Value{num(1), text("a"), num(2), text("b"), num(3), text("c")}
	x, u := tabled(t, "t", "id INT, s TEXT, PRIMARY KEY (id)"), tabled(t, "u", "k INT, w TEXT, PRIMARY KEY (k)")
	l := rows{values[:2], values[2:4], values[4:]}
	before := slices.Clone(values)
	got, _ := exec.Select(statement(t, "SELECT *, s FROM t JOIN u ON id <= k"), []api.Table{x, u}, l, l[1:])
	if want := written(t, "(1, 'a', 2, 'b', 'a'), (1, 'a', 3, 'c', 'a'), (2, 'b', 2, 'b', 'b'), (2, 'b', 3, 'c', 'b'), (3, 'c', 3, 'c', 'c')"); !alike(got, want) {
		t.Errorf("%v", got)
	}
	wantApart(t, got, l)
	s := statement(t, "INSERT INTO t VALUES (9, 'z')")
	for _, n := range []int{1, 2} {
		s.Rows = l[n:]
		got, _, code := exec.Change(s, x, l[:n])
		if code != api.OK || !alike(got, l) {
			t.Errorf("%v, %d", got, code)
		}
		wantApart(t, got, l)
		got, _, code = exec.Change(statement(t, "UPDATE t SET s = 'x', id = id + 10"), x, l[:n])
		wantApart(t, got, l)
		if code != api.OK || len(got) != n {
			t.Errorf("%v, %d", got, code)
		}
	}
	if !slices.Equal(values, before) {
		t.Errorf("became %v", values)
	}
}

func TestTextsAreNotKept(t *testing.T) { // P16.3
	// The bytes of a text may be the caller's to change, where it is made of them.
	x := tabled(t, "t", "id INT, s TEXT, PRIMARY KEY (id)")
	for _, source := range []string{"SELECT * FROM t", "SELECT id, s FROM t", "SELECT MAX(id), MIN(s) FROM t", "SELECT 1, 'ab' FROM t", "UPDATE t SET id = id", "UPDATE t SET s = 'ab'", "DELETE FROM t WHERE id > 1", "INSERT INTO t VALUES (1, 'ab')"} {
		room := []byte("ab")
		own := text(unsafe.String(&room[0], 2))
		s, there := statement(t, source), rows{{num(1), own}}
		if s.Kind == api.StInsert {
			s.Rows[0][1], there = own, nil
		}
		for _, i := range s.Items {
			for k := range i.Args {
				if i.Args[k].Value == text("ab") {
					i.Args[k].Value = own
				}
			}
		}
		for i := range s.Sets {
			if s.Sets[i].Expr.Value == text("ab") {
				s.Sets[i].Expr.Value = own
			}
		}
		var got rows
		if s.Kind == api.StSelect {
			got, _ = exec.Select(s, []api.Table{x}, there)
		} else {
			got, _, _ = exec.Change(s, x, there)
		}
		copy(room, "yz")
		if !alike(got, rows{{num(1), text("ab")}}) {
			t.Errorf("%s: became %v", source, got)
		}
	}
}

func TestEmptyListsAreAsNone(t *testing.T) { // W5
	w := examples(t)
	for _, source := range []string{"SELECT id FROM t", "SELECT COUNT(*), MIN(n), 'a' FROM t", "SELECT COUNT(*) FROM t", "INSERT INTO t VALUES (7, 7, '')", "UPDATE t SET n = 7", "DELETE FROM t"} {
		s := statement(t, source)
		v := reflect.ValueOf(&s).Elem()
		for i := range v.NumField() {
			if f := v.Field(i); f.Kind() == reflect.Slice && f.Len() == 0 {
				f.Set(reflect.MakeSlice(f.Type(), 0, 0))
			}
		}
		for i := range s.Items {
			if s.Items[i].Args == nil {
				s.Items[i].Args = []api.Expr{}
			}
			for k := range s.Items[i].Args {
				s.Items[i].Args[k].Args = []api.Expr{}
			}
		}
		for _, there := range []rows{nil, {}, w.rows[0]} {
			if s.Kind == api.StSelect {
				holdSelect(t, s, w.tables[:1], there)
			} else {
				holdChange(t, s, w.tables[0], there)
			}
		}
	}
	// A table's rows without values, where none is asked for.
	if _, _, code := exec.Change(statement(t, "DELETE FROM t"), w.tables[0], rows{nil, {}}); code != api.ErrArg {
		t.Errorf("%d", code)
	}
}
