package catalog_test

import (
	"math/rand"
	"reflect"
	"slices"
	"strings"
	"testing"

	"vestry/api"
	"vestry/catalog"
)

// holding is a catalog with these tables.
func holding(t *testing.T, l ...api.Table) *catalog.Catalog {
	t.Helper()
	c := catalog.New()
	for _, x := range l {
		wantAdd(t, c, api.OK, x)
	}
	return c
}

func wantAdd(t *testing.T, c *catalog.Catalog, want api.Errno, x api.Table) {
	t.Helper()
	if e := c.Add(x); e != want {
		t.Fatalf("Add(%+v): %d, not %d", x, e, want)
	}
}

func wantDrop(t *testing.T, c *catalog.Catalog, want api.Errno, name string) {
	t.Helper()
	if e := c.Drop(name); e != want {
		t.Fatalf("Drop(%q): %d, not %d", name, e, want)
	}
}

func wantNone(t *testing.T, c *catalog.Catalog, name string) {
	t.Helper()
	if x, ok := c.Find(name); ok || !reflect.DeepEqual(x, api.Table{}) {
		t.Fatalf("Find(%q): %+v, %v", name, x, ok)
	}
}

// wantAll holds all that a catalog says against the tables that it must have,
// which stand by rising names.
func wantAll(t *testing.T, c *catalog.Catalog, want ...api.Table) {
	t.Helper()
	if all := c.All(); !slices.EqualFunc(all, want, like) {
		t.Fatalf("All: %+v, not %+v", all, want)
	}
	there := map[string]api.Table{}
	for _, x := range want {
		there[x.Name] = x
	}
	for _, name := range append(rightNames(), append(sortedNames(there), wrongNames()...)...) {
		x, ok := there[name]
		if !ok {
			wantNone(t, c, name)
		} else if found, ok := c.Find(name); !ok || !like(found, x) {
			t.Fatalf("Find(%q): %+v, %v, not %+v", name, found, ok, x)
		}
	}
}

func TestNewHasNone(t *testing.T) { // P11.3
	c := catalog.New()
	wantAll(t, c)
	wantDrop(t, c, api.ErrTable, "t")
	wantAdd(t, c, api.OK, table("t", "a"))
	wantAll(t, catalog.New())
}

func TestAddAndDrop(t *testing.T) { // P11.3, P11.6
	x, y := table("t", "a", text("b")), table("u", "c")
	c := holding(t, x)
	wantAll(t, c, x)
	wantAdd(t, c, api.OK, y)
	wantAll(t, c, x, y)
	wantDrop(t, c, api.OK, "t")
	wantAll(t, c, y)
	wantDrop(t, c, api.ErrTable, "t")
	wantAll(t, c, y)
	other := table("t", "z")
	wantAdd(t, c, api.OK, other)
	wantAll(t, c, other, y)
	wantDrop(t, c, api.OK, "u")
	wantDrop(t, c, api.OK, "t")
	wantAll(t, c)
}

func TestAddOfOneThatIsThere(t *testing.T) { // P11.3
	x := table("t", "a", text("b"))
	c := holding(t, x)
	for _, other := range []api.Table{x, table("t", "a"), table("t", "z", must(num("a")))} {
		wantAdd(t, c, api.ErrDouble, other)
		wantAll(t, c, x)
	}
	// The names of columns are no names of tables.
	wantAdd(t, c, api.OK, table("a", "t"))
	wantAll(t, c, table("a", "t"), x)
}

func TestAddOfWhatMayNotBe(t *testing.T) { // P11.3
	x := table("t", "a")
	c := holding(t, x)
	for _, other := range []api.Table{
		{}, {Name: "u"}, {Name: "u", Columns: columns(num("a"))}, {Name: "u", Columns: columns(must(num("a"))), Primary: 1},
		{Name: "u", Columns: columns(must(num("a"))), Primary: -1}, table("U", "a"), table("", "a"), table("u", "a", num("a")), table("u", "a", many(9)[1:]...),
	} {
		wantAdd(t, c, api.ErrForm, other)
		wantAll(t, c, x)
	}
}

// full are as many tables as a catalog has room for.
func full() []api.Table {
	var l []api.Table
	for i := range api.MaxTables {
		l = append(l, table(string(rune('a'+i)), "k", many(i)...))
	}
	return l
}

func TestAddToAFullOne(t *testing.T) { // P11.3
	l := full()
	c := holding(t, l...)
	wantAll(t, c, l...)
	for range 3 {
		wantAdd(t, c, api.ErrFull, table("z", "a"))
		wantAll(t, c, l...)
	}
	for i, x := range l {
		wantDrop(t, c, api.OK, x.Name)
		rest := slices.Delete(slices.Clone(l), i, i+1)
		wantAll(t, c, rest...)
		wantAdd(t, c, api.OK, table("z", "a"))
		wantAdd(t, c, api.ErrFull, x)
		wantAll(t, c, append(rest, table("z", "a"))...)
		wantDrop(t, c, api.OK, "z")
		wantAdd(t, c, api.OK, x)
		wantAll(t, c, l...)
	}
}

func TestAddTellsTheFirstError(t *testing.T) { // P11.3, W4
	c := holding(t, full()...)
	wrong := table("a", "k")
	wrong.Columns[0].Unique = false
	wantAdd(t, c, api.ErrForm, wrong)
	wantAdd(t, c, api.ErrForm, api.Table{Name: "z"})
	wantAdd(t, c, api.ErrDouble, table("a", "k"))
	wantAdd(t, c, api.ErrFull, table("z", "k"))
	wantAdd(t, holding(t, table("a", "k")), api.ErrForm, wrong)
	wantAll(t, c, full()...)
}

func TestDropOfOthers(t *testing.T) { // P11.3
	x := table("ab", "a")
	c := holding(t, x)
	for _, name := range append(wrongNames(), "a", "b", "abc", "ab_", "AB", " ab", "ab ", "t", "_") {
		wantDrop(t, c, api.ErrTable, name)
		wantNone(t, c, name)
	}
	wantAll(t, c, x)
}

func TestAllByRisingNames(t *testing.T) { // P11.3, W2, W7
	names := rightNames()
	r := rand.New(rand.NewSource(12))
	for range 300 {
		c := catalog.New()
		chosen := r.Perm(len(names))[:r.Intn(api.MaxTables+1)]
		for _, i := range chosen {
			wantAdd(t, c, api.OK, table(names[i], "a"))
		}
		slices.Sort(chosen)
		var want []api.Table
		for _, i := range chosen {
			want = append(want, table(names[i], "a"))
		}
		for range 3 {
			wantAll(t, c, want...)
		}
	}
}

func TestCatalogsAreApart(t *testing.T) { // P11.3, W2
	x, y := table("t", "a"), table("t", "b")
	c, d := holding(t, x), holding(t, y)
	wantAll(t, c, x)
	wantDrop(t, d, api.OK, "t")
	wantAll(t, c, x)
	wantAll(t, d)
}

// run takes each two bytes as a call, and holds the catalog against a map.
func run(t *testing.T, calls []byte) {
	names := append(rightNames()[:9], "A", "")
	c, m := catalog.New(), map[string]api.Table{}
	for ; len(calls) >= 2; calls = calls[2:] {
		name := names[int(calls[0])%len(names)]
		_, there := m[name]
		if calls[1] < 100 {
			want := api.ErrTable
			if there {
				want = api.OK
			}
			wantDrop(t, c, want, name)
			delete(m, name)
		} else {
			x := table(name, "k", many(int(calls[1])%8)...)
			switch {
			case !mayBe(x):
				wantAdd(t, c, api.ErrForm, x)
			case there:
				wantAdd(t, c, api.ErrDouble, x)
			case len(m) == api.MaxTables:
				wantAdd(t, c, api.ErrFull, x)
			default:
				wantAdd(t, c, api.OK, x)
				m[name] = x
			}
		}
		var want []api.Table
		for _, name := range sortedNames(m) {
			want = append(want, m[name])
		}
		wantAll(t, c, want...)
	}
}

func TestWhatWasAddedIsFoundTillItIsDropped(t *testing.T) { // P11.3, P11.6
	r := rand.New(rand.NewSource(13))
	for n := range 200 {
		calls := make([]byte, n)
		r.Read(calls)
		run(t, calls)
	}
}

func FuzzCalls(f *testing.F) { // P11.3, P11.6
	f.Add([]byte(strings.Repeat("\x00\xff\x01\xc8\x00\x10\x02\x90", 4)))
	f.Fuzz(run)
}
