package catalog_test

import (
	"math/rand"
	"reflect"
	"slices"
	"strings"
	"testing"
	"unsafe"

	"vestry/api"
	"vestry/catalog"
)

// copied are columns in memory of their own.
func copied(l []api.Column) []api.Column {
	var out []api.Column
	for _, c := range l {
		c.Name = strings.Clone(c.Name)
		out = append(out, c)
	}
	return out
}

// roomy is a table in memory of its own, with spare room in which something stands.
func roomy(x api.Table) api.Table {
	size := len(x.Columns)
	x.Name = strings.Clone(x.Name)
	x.Columns = append(copied(x.Columns), num("spare"), text("room"))[:size]
	return x
}

// whole are columns with their spare room.
func whole(l []api.Column) []api.Column { return l[:cap(l)] }

// meet tells whether so many bytes from one place on, and so many from another, share any.
func meet(a, b unsafe.Pointer, sizeA, sizeB uintptr) bool {
	return sizeA > 0 && sizeB > 0 && uintptr(a) < uintptr(b)+sizeB && uintptr(b) < uintptr(a)+sizeA
}

// overlap tells whether two texts share memory.
func overlap(a, b string) bool {
	return meet(unsafe.Pointer(unsafe.StringData(a)), unsafe.Pointer(unsafe.StringData(b)), uintptr(len(a)), uintptr(len(b)))
}

// overlay tells whether two lists of columns share memory, or spare room.
func overlay(a, b []api.Column) bool {
	const size = unsafe.Sizeof(api.Column{})
	return meet(unsafe.Pointer(unsafe.SliceData(a)), unsafe.Pointer(unsafe.SliceData(b)), size*uintptr(cap(a)), size*uintptr(cap(b)))
}

// textsOf are all texts of a table.
func textsOf(x api.Table) []string {
	l := []string{x.Name}
	for _, c := range x.Columns {
		l = append(l, c.Name)
	}
	return l
}

// wantApart holds that no two tables share any memory.
func wantApart(t *testing.T, what string, l ...api.Table) {
	t.Helper()
	for i, x := range l {
		for _, y := range l[:i] {
			if overlay(x.Columns, y.Columns) {
				t.Fatalf("%s: columns share memory", what)
			}
			for _, a := range textsOf(x) {
				if slices.ContainsFunc(textsOf(y), func(b string) bool { return overlap(a, b) }) {
					t.Fatalf("%s: %q shares memory", what, a)
				}
			}
		}
	}
}

// spoil writes over a table's columns, and over their spare room.
func spoil(x api.Table) {
	l := whole(x.Columns)
	for i := range l {
		l[i] = api.Column{Name: "spoilt", Kind: 9, NotNull: !l[i].NotNull, Unique: !l[i].Unique}
	}
}

// unchanged hands a table in, and holds that it stays as it is.
func unchanged(t *testing.T, what string, x api.Table, call func()) {
	t.Helper()
	before := slices.Clone(whole(x.Columns))
	call()
	if !reflect.DeepEqual(before, whole(x.Columns)) {
		t.Fatalf("%s: what was handed in was changed", what)
	}
}

func TestMemoryOfMake(t *testing.T) { // P11.1, P11.4
	m := maker{rand.New(rand.NewSource(14))}
	for range 500 {
		given := roomy(m.table())
		at := m.Intn(len(given.Columns))
		given.Columns[at].NotNull, given.Columns[at].Unique = m.flip(), m.flip()
		s := create(given.Name, given.Columns[at].Name, given.Columns...)
		s.Columns = given.Columns
		want, _ := madeOf(s)
		unchanged(t, "Make", given, func() {
			x, _ := catalog.Make(s)
			y, _ := catalog.Make(s)
			wantApart(t, "Make", given, x, y)
			spoil(y)
			if !like(x, want) {
				t.Fatalf("two answers share memory: %+v", x)
			}
			spoil(x)
		})
		x, _ := catalog.Make(s)
		spoil(given)
		if !like(x, want) {
			t.Fatalf("the answer became %+v", x)
		}
	}
	// What is refused is not changed either.
	given := roomy(api.Table{Columns: columns(num("a"), num("b"), num("a"))})
	unchanged(t, "Make", given, func() {
		for _, size := range []int{2, 3} {
			s := create("t", "c")
			s.Columns = given.Columns[:size]
			catalog.Make(s)
		}
	})
}

func TestMemoryOfSourceAndRead(t *testing.T) { // P11.2, P11.4
	m := maker{rand.New(rand.NewSource(15))}
	for range 500 {
		given := roomy(m.table())
		want := sourceOf(given)
		unchanged(t, "Source", given, func() {
			s, _ := catalog.Source(given)
			other, _ := catalog.Source(given)
			if overlap(s, other) {
				t.Fatal("two sources share memory")
			}
			for _, one := range textsOf(given) {
				if overlap(s, one) {
					t.Fatalf("%q shares memory with what was handed in", s)
				}
			}
			x, _ := catalog.Read(s)
			y, _ := catalog.Read(s)
			wantApart(t, "Read", given, x, y)
			for _, one := range textsOf(x) {
				if overlap(s, one) {
					t.Fatalf("%q shares memory with the source", one)
				}
			}
			spoil(y)
			if !like(x, given) || s != want {
				t.Fatalf("two answers share memory: %+v", x)
			}
		})
		wrong := roomy(given)
		wrong.Columns[wrong.Primary].Unique = false
		unchanged(t, "Source", wrong, func() { catalog.Source(wrong) })
	}
}

func TestMemoryOfACatalog(t *testing.T) { // P11.3, P11.4
	m := maker{rand.New(rand.NewSource(16))}
	for range 200 {
		c := catalog.New()
		var want, given []api.Table
		for i := range 1 + m.Intn(api.MaxTables) {
			x := m.table()
			x.Name = rightNames()[i]
			want, given = append(want, x), append(given, roomy(x))
			unchanged(t, "Add", given[i], func() { wantAdd(t, c, api.OK, given[i]) })
			unchanged(t, "Add", given[i], func() { wantAdd(t, c, api.ErrDouble, given[i]) })
		}
		all, again := c.All(), c.All()
		answers := append(append(slices.Clone(given), all...), again...)
		for _, x := range want {
			found, _ := c.Find(x.Name)
			answers = append(answers, found)
		}
		wantApart(t, "All and Find", answers...)
		for _, x := range answers {
			spoil(x)
		}
		clear(all[:cap(all)])
		wantAll(t, c, want...)
		// What was answered stays, whatever is dropped or added behind it.
		all = c.All()
		wantDrop(t, c, api.OK, want[0].Name)
		wantAdd(t, c, api.OK, table(want[0].Name, "other"))
		if !slices.EqualFunc(all, want, like) {
			t.Fatalf("an answer became %+v", all)
		}
	}
}

func TestNamesAreNotKept(t *testing.T) { // P11.4
	// The bytes of a name may be the caller's to change, where its text is made of them.
	room := []byte("tu")
	x := table(unsafe.String(&room[0], 1), unsafe.String(&room[1], 1))
	c := holding(t, x)
	made, _ := catalog.Make(create(x.Name, x.Columns[0].Name, x.Columns...))
	source, _ := catalog.Source(x)
	back, _ := catalog.Read(source)
	copy(room, "vw")
	wantAll(t, c, table("t", "u"))
	if !like(made, table("t", "u")) || !like(back, table("t", "u")) || source != sourceOf(table("t", "u")) {
		t.Errorf("became %+v, %+v, %q", made, back, source)
	}
	wantDrop(t, c, api.OK, "t")
}

func TestEmptyListsAreAsNone(t *testing.T) { // W5
	s := create("t", "a", num("a"))
	s.Rows, s.Sets, s.Items = [][]api.Value{}, []api.Set{}, []api.Item{}
	s.On, s.Where, s.Group, s.Order = []api.Expr{}, []api.Expr{}, []api.Expr{}, []api.Expr{}
	if x, e := catalog.Make(s); e != api.OK || !like(x, table("t", "a")) {
		t.Errorf("Make with empty lists: %+v, %d", x, e)
	}
	holdMake(t, create("t", "a", columns()...))
	holdTable(t, api.Table{Name: "t", Columns: columns()})
}
