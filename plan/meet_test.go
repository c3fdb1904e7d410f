package plan_test

import (
	"math/rand"
	"strings"
	"testing"

	"vestry/api"
	"vestry/plan"
)

func TestAllAndNone(t *testing.T) { // P15.1, P15.2
	if s := plan.All(); len(s.From) != 0 || len(s.To) != 0 || s.End {
		t.Errorf("All: %v", s)
	}
	if s := plan.None(); len(s.From) != 0 || len(s.To) != 0 || !s.End {
		t.Errorf("None: %v", s)
	}
	for _, k := range someKeys() {
		if !within(k, plan.All()) || within(k, plan.None()) {
			t.Errorf("%q is not within All, or within None", k)
		}
	}
}

// someKeys are keys, some of them the beginnings of others.
func someKeys() []string {
	l := []string{"", "\x00", "\x00\x00", "\x00\x01", "\x01", "\x7f", "\x80", "\xff", "\xff\xff", "a", "a\x00", "a\x00\x00", "a\xff", "aa", "ab", "b", strings.Repeat("k", 5000), strings.Repeat("k", 5001)}
	for _, v := range values() {
		l = append(l, keyOf(v), keyOf(v)+"\x00")
	}
	return l
}

// someSpans are all that have two of these keys as their ends.
func someSpans(keys ...string) []api.Span {
	l := []api.Span{{}, {End: true}}
	for _, from := range keys {
		for _, to := range keys {
			l = append(l, span(from, to, true), span(from, to, false))
		}
	}
	return l
}

func TestExamplesOfMeet(t *testing.T) { // P15.1
	for _, c := range [][3]api.Span{
		{span("a", "c", true), span("b", "d", true), span("b", "c", true)},
		{span("a", "d", true), span("b", "c", true), span("b", "c", true)},
		{span("a", "b", true), span("c", "d", true), span("c", "b", true)},
		{span("b", "", false), span("", "d", true), span("b", "d", true)},
		{span("b", "", false), span("c", "", false), span("c", "", false)},
		{span("", "b", true), span("", "c", true), span("", "b", true)},
		{span("a", "c", true), plan.All(), span("a", "c", true)},
		{span("a", "c", true), plan.None(), span("a", "", true)},
		{span("a", "", false), plan.None(), span("a", "", true)},
		{plan.All(), plan.All(), plan.All()},
		{plan.All(), plan.None(), plan.None()},
		{plan.None(), plan.None(), plan.None()},
		// As bytes: what goes on stands behind its beginning.
		{span("a", "b\x00", true), span("a\x00", "b", true), span("a\x00", "b", true)},
		{span("\x7f", "\xff", true), span("\x80", "\x7f\xff", true), span("\x80", "\x7f\xff", true)},
		// Where there is no end, To is none, whatever stands there.
		{span("a", "b", false), span("a", "c", true), span("a", "c", true)},
		{span("a", "z", false), span("a", "c", true), span("a", "c", true)},
		{span("a", "b", false), span("c", "d", false), span("c", "", false)},
		{span("a", "b", false), plan.All(), span("a", "", false)},
	} {
		for _, sides := range [][2]api.Span{{c[0], c[1]}, {c[1], c[0]}} {
			if s := plan.Meet(sides[0], sides[1]); !alike(s, c[2]) {
				t.Errorf("Meet(%v, %v): %v, not %v", sides[0], sides[1], s, c[2])
			}
		}
	}
}

func TestMeet(t *testing.T) { // P15.1
	l := someSpans("", "\x00", "a", "a\x00", "a\x00\x00", "ab", "b", "\xff")
	for _, a := range l {
		for _, b := range l {
			holdMeet(t, a, b)
		}
	}
}

func TestMeetHasWhatBothHave(t *testing.T) { // P15.5
	keys := []string{"", "\x00", "a", "a\x00", "a\x00\x00", "a\x01", "b", "b\x00", "c", "\xff"}
	l := someSpans("", "a", "a\x00", "b", "\xff")
	for _, a := range l {
		for _, b := range l {
			s := plan.Meet(a, b)
			for _, k := range keys {
				if within(k, s) != (within(k, a) && within(k, b)) {
					t.Errorf("Meet(%v, %v): %v, of the key %q", a, b, s, k)
				}
			}
		}
	}
	r := rand.New(rand.NewSource(15))
	keys = someKeys()
	l = someSpans(keys...)
	for range 100000 {
		a, b, k := l[r.Intn(len(l))], l[r.Intn(len(l))], keys[r.Intn(len(keys))]
		holdMeet(t, a, b)
		if within(k, plan.Meet(a, b)) != (within(k, a) && within(k, b)) {
			t.Fatalf("Meet(%v, %v), of the key %q", a, b, k)
		}
	}
}

func FuzzMeet(f *testing.F) { // P15.1, P15.5
	f.Add([]byte("a"), []byte("c"), true, []byte("b"), []byte("d"), true, []byte("b"))
	f.Add([]byte("a"), []byte("c"), false, []byte(""), []byte("\x00"), true, []byte("a\x00"))
	f.Fuzz(func(t *testing.T, from, to []byte, end bool, otherFrom, otherTo []byte, otherEnd bool, key []byte) {
		a, b := api.Span{From: from, To: to, End: end}, api.Span{From: otherFrom, To: otherTo, End: otherEnd}
		holdMeet(t, a, b)
		for _, k := range [][]byte{key, from, to, otherFrom, otherTo} {
			if within(string(k), plan.Meet(a, b)) != (within(string(k), a) && within(string(k), b)) {
				t.Fatalf("Meet(%v, %v), of the key %q", a, b, k)
			}
		}
	})
}
