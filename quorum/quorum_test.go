package quorum_test

import (
	"math/rand"
	"slices"
	"strings"
	"testing"
	"unsafe"

	"vestry/api"
	"vestry/quorum"
)

// allSets is how many sets there are: the numbers below it.
const allSets = 1 << 16

// sizes are the clusters that may be, by their faults.
var sizes = map[int]int{1: 4, 2: 7, 3: 10, 4: 13, 5: 16}

// farNumbers are neither a size, nor a replica, nor a set; some are one in their lower bits.
var farNumbers = []int{api.MinInt, api.MinInt + 1, api.MinInt + 4, -1 << 32, -allSets, -16, -7, -4, -1, 1<<32 + 1, 1<<32 + 4, 1<<32 + 7, 1<<62 + 7, api.MaxInt - 1, api.MaxInt}

// faultsOf are the faults of a size; 0 of another number.
func faultsOf(n int) int {
	for f, size := range sizes {
		if size == n {
			return f
		}
	}
	return 0
}

// numbersTo are the numbers from a few below 0 to a last one, and the far ones.
func numbersTo(last int) []int {
	l := slices.Clone(farNumbers)
	for n := -20; n <= last; n++ {
		l = append(l, n)
	}
	return l
}

func TestExamplesOfSizes(t *testing.T) { // P6.1
	if n, e := quorum.Size(1); n != 4 || e != api.OK {
		t.Errorf("Size(1): %d, %v", n, e)
	}
	if f, e := quorum.Faults(7); f != 2 || e != api.OK {
		t.Errorf("Faults(7): %d, %v", f, e)
	}
	if f, e := quorum.Faults(5); f != 0 || e != api.ErrArg {
		t.Errorf("Faults(5): %d, %v", f, e)
	}
	if most, few := quorum.Most(4), quorum.Few(4); most != 3 || few != 2 {
		t.Errorf("Most(4), Few(4): %d, %d", most, few)
	}
}

func TestSize(t *testing.T) { // P6.1
	for _, f := range numbersTo(100) {
		n, e := quorum.Size(f)
		if want, is := sizes[f]; is && (n != want || e != api.OK) {
			t.Errorf("Size(%d): %d, %v, not %d", f, n, e, want)
		} else if !is && (n != 0 || e != api.ErrArg) {
			t.Errorf("Size(%d): %d, %v, not ErrArg", f, n, e)
		}
	}
}

func TestFaultsMostAndFew(t *testing.T) { // P6.1
	for _, n := range numbersTo(100) {
		f, e := quorum.Faults(n)
		most, few := quorum.Most(n), quorum.Few(n)
		want := faultsOf(n)
		if want == 0 {
			if f != 0 || e != api.ErrArg || most != 0 || few != 0 {
				t.Errorf("of %d: Faults %d, %v, Most %d, Few %d, not 0, ErrArg, 0, 0", n, f, e, most, few)
			}
			continue
		}
		if f != want || e != api.OK || most != 2*want+1 || few != want+1 {
			t.Errorf("of %d: Faults %d, %v, Most %d, Few %d", n, f, e, most, few)
		}
	}
}

func TestExamplesOfSets(t *testing.T) { // P6.2, P6.3
	if set, e := quorum.Set(1, 3); set != 5 || e != api.OK {
		t.Errorf("Set(1, 3): %d, %v", set, e)
	}
	if l := quorum.Members(5); !slices.Equal(l, []int{1, 3}) {
		t.Errorf("Members(5): %v", l)
	}
	if n := quorum.Count(5); n != 2 {
		t.Errorf("Count(5): %d", n)
	}
	if !quorum.Is(4, 7) || quorum.Is(4, 5) {
		t.Errorf("Is(4, 7), Is(4, 5): %v, %v", quorum.Is(4, 7), quorum.Is(4, 5))
	}
}

// worth is what a member adds to its set.
func worth(who int) int {
	w := 1
	for range who - 1 {
		w *= 2
	}
	return w
}

func wantSet(t *testing.T, want int, l ...int) {
	t.Helper()
	if set, e := quorum.Set(l...); set != want || e != api.OK {
		t.Errorf("Set(%v): %d, %v, not %d", l, set, e, want)
	}
}

func wantNoSet(t *testing.T, l ...int) {
	t.Helper()
	if set, e := quorum.Set(l...); set != 0 || e != api.ErrSet {
		t.Errorf("Set(%v): %d, %v, not ErrSet", l, set, e)
	}
}

func TestSetOfSome(t *testing.T) { // P6.2
	wantSet(t, 0)
	wantSet(t, 0, []int{}...)
	sum := 0
	var rising, falling []int
	for who := 1; who <= api.MaxReplicas; who++ {
		wantSet(t, worth(who), who)
		wantSet(t, worth(who), who, who, who)
		sum += worth(who)
		rising = append(rising, who)
		falling = append([]int{who}, falling...)
		wantSet(t, sum, rising...)
		wantSet(t, sum, falling...)
		wantSet(t, sum, append(slices.Clone(rising), falling...)...)
	}
	wantSet(t, allSets-1, rising...)
	wantSet(t, 1+worth(16), 16, 1, 16, 1)
}

func TestSetOfOthers(t *testing.T) { // P6.2
	for _, who := range append(slices.Clone(farNumbers), 0, api.MaxReplicas+1, 63, 64, 65, 256+1) {
		wantNoSet(t, who)
		wantNoSet(t, who, 1)
		wantNoSet(t, 1, who)
		wantNoSet(t, 16, who, 1)
		wantNoSet(t, who, who)
	}
}

func TestManyInOneSet(t *testing.T) { // P6.2
	l := make([]int, 100000)
	for i := range l {
		l[i] = i%3 + 1
	}
	wantSet(t, 7, l...)
	l[len(l)-1] = api.MaxReplicas + 1
	wantNoSet(t, l...)
}

// membersOf are a set's members by what each is worth, from the greatest on.
func membersOf(set int) []int {
	var l []int
	for who := api.MaxReplicas; who >= 1; who-- {
		if set >= worth(who) {
			set -= worth(who)
			l = append([]int{who}, l...)
		}
	}
	return l
}

func TestEverySet(t *testing.T) { // P6.2
	for set := range allSets {
		want := membersOf(set)
		if l := quorum.Members(set); !slices.Equal(l, want) {
			t.Fatalf("Members(%d): %v, not %v", set, l, want)
		}
		if n := quorum.Count(set); n != len(want) {
			t.Fatalf("Count(%d): %d, not %d", set, n, len(want))
		}
		for who := -1; who <= api.MaxReplicas+2; who++ {
			if has := quorum.Has(set, who); has != slices.Contains(want, who) {
				t.Fatalf("Has(%d, %d): %v", set, who, has)
			}
		}
		if again, e := quorum.Set(want...); again != set || e != api.OK {
			t.Fatalf("Set(%v): %d, %v, not %d", want, again, e, set)
		}
	}
}

func TestHasNoOtherMembers(t *testing.T) { // P6.2
	for _, set := range []int{0, 1, worth(16), allSets - 1} {
		for _, who := range append(slices.Clone(farNumbers), 0, 17, 31, 32, 33, 63, 64, 65, 128, 256+1) {
			if quorum.Has(set, who) {
				t.Errorf("Has(%d, %d)", set, who)
			}
		}
	}
}

func TestNumbersThatAreNoSets(t *testing.T) { // P6.2, P6.3
	for _, set := range append(slices.Clone(farNumbers), allSets, allSets+1, allSets+7, 2*allSets-1, 2*allSets, 1<<32+allSets-1) {
		if l := quorum.Members(set); len(l) != 0 {
			t.Errorf("Members(%d): %v", set, l)
		}
		if n := quorum.Count(set); n != 0 {
			t.Errorf("Count(%d): %d", set, n)
		}
		for _, who := range numbersTo(70) {
			if quorum.Has(set, who) {
				t.Errorf("Has(%d, %d)", set, who)
			}
		}
		for _, n := range numbersTo(70) {
			if quorum.Is(n, set) {
				t.Errorf("Is(%d, %d)", n, set)
			}
		}
	}
}

// isQuorum says P6.3 of a set, by its members.
func isQuorum(n int, members []int) bool {
	f := faultsOf(n)
	upTo := 0
	for _, who := range members {
		if who <= n {
			upTo++
		}
	}
	return f > 0 && upTo >= 2*f+1
}

func TestEveryQuorum(t *testing.T) { // P6.3
	for set := range allSets {
		members := membersOf(set)
		for n := -1; n <= 18; n++ {
			if is := quorum.Is(n, set); is != isQuorum(n, members) {
				t.Fatalf("Is(%d, %d): %v, of %v", n, set, is, members)
			}
		}
	}
}

func TestMembersAboveTheSizeNeitherHelpNorHarm(t *testing.T) { // P6.3
	for _, c := range []struct {
		n    int
		set  []int
		want bool
	}{
		{4, []int{1, 2, 3}, true},
		{4, []int{2, 3, 4}, true},
		{4, []int{1, 2, 5}, false},
		{4, []int{5, 6, 7}, false},
		{4, []int{1, 2, 3, 5}, true},
		{4, []int{1, 2, 4, 16}, true},
		{7, []int{1, 2, 3, 4}, false},
		{7, []int{1, 2, 3, 4, 8}, false},
		{7, []int{1, 2, 3, 4, 7}, true},
		{7, []int{1, 2, 3, 4, 7, 8}, true},
	} {
		set, _ := quorum.Set(c.set...)
		if is := quorum.Is(c.n, set); is != c.want {
			t.Errorf("Is(%d, the set of %v): %v", c.n, c.set, is)
		}
	}
}

func TestNoQuorumOfOtherSizes(t *testing.T) { // P6.3
	for _, n := range numbersTo(100) {
		if faultsOf(n) > 0 {
			continue
		}
		for _, set := range []int{0, 1, 7, 15, 255, allSets - 1} {
			if quorum.Is(n, set) {
				t.Errorf("Is(%d, %d)", n, set)
			}
		}
	}
}

// agreed says P6.4: of all texts that are said, sorted, the first that few say.
func agreed(n int, l []string) (string, bool) {
	l = l[:max(0, min(n, len(l)))]
	few := 0
	if f := faultsOf(n); f > 0 {
		few = f + 1
	}
	texts := slices.Clone(l)
	slices.Sort(texts)
	for _, text := range texts {
		by := 0
		for _, other := range l {
			if other == text {
				by++
			}
		}
		if text != "" && by >= few {
			return text, true
		}
	}
	return "", false
}

func wantAgreed(t *testing.T, n int, want string, l ...string) {
	t.Helper()
	if text, is := quorum.Agreed(n, l); text != want || is != (want != "") {
		t.Errorf("Agreed(%d, %q): %q, %v, not %q", n, l, text, is, want)
	}
}

func TestExamplesOfAgreed(t *testing.T) { // P6.4
	wantAgreed(t, 4, "a", "a", "b", "a", "")
	wantAgreed(t, 4, "", "a", "b")
}

func TestAgreedByFew(t *testing.T) { // P6.4
	for f, n := range sizes {
		for by := range n + 1 {
			want := ""
			if by >= f+1 {
				want = "a"
			}
			ahead := append(slices.Repeat([]string{"a"}, by), make([]string, n-by)...)
			wantAgreed(t, n, want, ahead...)
			slices.Reverse(ahead)
			wantAgreed(t, n, want, ahead...)
			wantAgreed(t, n, want, slices.Repeat([]string{"a"}, by)...)
		}
	}
}

func TestAgreedOnNothing(t *testing.T) { // P6.4
	for _, n := range numbersTo(20) {
		wantAgreed(t, n, "")
		wantAgreed(t, n, "", []string{}...)
		wantAgreed(t, n, "", make([]string, 20)...)
	}
	wantAgreed(t, 4, "b", "", "", "b", "b")
	wantAgreed(t, 4, "", "", "", "", "b")
	wantAgreed(t, 7, "b", "", "b", "", "b", "", "b", "")
}

func TestOnlyTheFirstCount(t *testing.T) { // P6.4
	wantAgreed(t, 4, "", "a", "b", "c", "d", "a", "b", "a", "a")
	wantAgreed(t, 4, "", "", "", "", "a", "a", "a", "a")
	wantAgreed(t, 4, "b", "b", "", "", "b", "a", "a")
	wantAgreed(t, 7, "b", "b", "b", "a", "a", "", "", "b", "a")
	for f, n := range sizes {
		l := append(slices.Repeat([]string{"b"}, f), make([]string, n-f)...)
		wantAgreed(t, n, "", append(slices.Clone(l), "b")...)
		wantAgreed(t, n, "", append(slices.Clone(l), slices.Repeat([]string{"b"}, 3*n)...)...)
		l[n-1] = "b"
		wantAgreed(t, n, "b", append(slices.Clone(l), slices.Repeat([]string{"a"}, 3*n)...)...)
	}
}

func TestTheLeastOfSeveral(t *testing.T) { // P6.4
	rising := []string{"\x00", "\x00\x00", "\x01", " ", "B", "a", "a\x00", "aa", "b", "ba", "\x7f", "\x80", "\u00e9", "\u4e16", "\xff", "\xff\xff"}
	for i, less := range rising {
		for _, more := range rising[i+1:] {
			wantAgreed(t, 4, less, less, less, more, more)
			wantAgreed(t, 4, less, more, more, less, less)
			wantAgreed(t, 4, less, more, less, more, less)
			wantAgreed(t, 4, less, less, more, more, less)
			// Where more say it, and where it is said first, is no matter.
			wantAgreed(t, 7, less, more, more, more, more, less, less, less)
			// The lesser one is said by too few.
			wantAgreed(t, 4, more, less, more, more)
			wantAgreed(t, 7, more, more, more, less, less, more)
		}
	}
	wantAgreed(t, 16, "a", "c", "c", "c", "c", "c", "c", "b", "a", "a", "a", "a", "a", "a", "b", "b", "b")
	wantAgreed(t, 16, "b", "a", "a", "a", "a", "a", "c", "b", "b", "b", "b", "b", "b", "c", "c", "c", "c")
}

func TestTextsThatAreNearlyAlike(t *testing.T) { // P6.4
	long := strings.Repeat("a", 100000)
	wantAgreed(t, 4, long, long, long+"b", long[1:], strings.Clone(long))
	wantAgreed(t, 4, "", long, long+"b", long[1:], "b"+long)
	wantAgreed(t, 4, "", "a", "a ", "a\x00", "A")
	wantAgreed(t, 4, "", "\u00e9", "e\u0301", "\xff", "\ufffd")
}

func TestAgreedOfOtherSizes(t *testing.T) { // P6.4
	// Few of such a number is 0: one that says a text is enough, of the first so many.
	wantAgreed(t, 5, "a", "b", "a", "b")
	wantAgreed(t, 5, "a", "c", "c", "c", "b", "a", "")
	wantAgreed(t, 5, "b", "c", "c", "c", "b", "", "a")
	wantAgreed(t, 1, "b", "b", "a", "a")
	wantAgreed(t, 1, "", "", "a", "a")
	wantAgreed(t, 17, "a", "b", "a")
	wantAgreed(t, api.MaxInt, "a", "b", "a")
	for _, n := range []int{0, -1, -4, api.MinInt} {
		wantAgreed(t, n, "", "a", "a", "a", "a")
	}
}

func TestAgreedAsTheWordsSay(t *testing.T) { // P6.4
	source := rand.New(rand.NewSource(6))
	texts := []string{"", "", "a", "b", "ab", "\x00", "\xff"}
	for range 200000 {
		n := source.Intn(20) - 1
		l := make([]string, source.Intn(20))
		some := texts[source.Intn(4):][:3+source.Intn(2)]
		for i := range l {
			l[i] = some[source.Intn(len(some))]
		}
		want, _ := agreed(n, l)
		wantAgreed(t, n, want, l...)
	}
}

func TestSayingsOfManyInEveryOrder(t *testing.T) { // P6.4, W2
	texts := []string{"", "a", "b", "c"}
	l := make([]string, 7)
	for number := range 1 << (2 * len(l)) {
		for i := range l {
			l[i] = texts[number>>(2*i)&3]
		}
		for _, n := range []int{4, 7} {
			want, _ := agreed(n, l)
			wantAgreed(t, n, want, l...)
		}
	}
}

func TestWhatIsHandedInIsNotChanged(t *testing.T) { // P6.5
	for _, numbers := range [][]int{{3, 1, 2, 1}, {3, 17, 1, 2}} {
		room := append(slices.Clone(numbers), 77, 78)
		quorum.Set(room[:4]...)
		if !slices.Equal(room, append(slices.Clone(numbers), 77, 78)) {
			t.Errorf("Set changed %v to %v", numbers, room)
		}
	}
	for _, n := range []int{4, 5, 7} {
		said := []string{"b", "", "a", "b", "a", "c", "spare", "room"}
		room := slices.Clone(said)
		quorum.Agreed(n, room[:6])
		if !slices.Equal(room, said) {
			t.Errorf("Agreed changed %q to %q", said, room)
		}
	}
}

func TestNothingIsKept(t *testing.T) { // P6.5, W2
	said := []string{"a", "b"}
	for range 5 {
		wantAgreed(t, 4, "", said...)
		wantSet(t, 1, 1)
	}
	said[1] = "a"
	wantAgreed(t, 4, "a", said...)
	said[0] = "b"
	wantAgreed(t, 4, "", said...)
}

func TestWhatIsAnsweredIsNewMemory(t *testing.T) { // P6.5
	for _, set := range []int{0, 1, 5, 255, allSets - 1} {
		first, second := quorum.Members(set), quorum.Members(set)
		first = first[:cap(first)]
		for i := range first {
			first[i] = 99
		}
		if !slices.Equal(second, membersOf(set)) || !slices.Equal(quorum.Members(set), membersOf(set)) {
			t.Errorf("Members(%d) shares memory with an earlier answer", set)
		}
	}
	said := []string{strings.Repeat("a", 10), strings.Repeat("a", 10)}
	text, is := quorum.Agreed(4, said)
	if !is || unsafe.StringData(text) == unsafe.StringData(said[0]) || unsafe.StringData(text) == unsafe.StringData(said[1]) {
		t.Errorf("Agreed's answer %q, %v shares memory with what was said", text, is)
	}
}

// quorumsOf are the sets of the first n replicas that are quorums.
func quorumsOf(n int) []int {
	var l []int
	for set := range 1 << n {
		if quorum.Is(n, set) {
			l = append(l, set)
		}
	}
	return l
}

func TestQuorumsMeet(t *testing.T) { // P6.6
	counts := make([]int, allSets)
	for set := range counts {
		counts[set] = quorum.Count(set)
	}
	for f, n := range sizes {
		l := quorumsOf(n)
		least := n
		for i, one := range l {
			for _, other := range l[i:] {
				least = min(least, counts[one&other])
			}
		}
		if least != quorum.Few(n) || least <= f {
			t.Errorf("of %d replicas two quorums have %d in common, not %d", n, least, quorum.Few(n))
		}
	}
}

func TestAQuorumIsThereWithoutTheFaulty(t *testing.T) { // P6.6
	for f, n := range sizes {
		all := 1<<n - 1
		for faulty := range 1 << n {
			if quorum.Is(n, all-faulty) != (quorum.Count(faulty) <= f) {
				t.Fatalf("of %d replicas without the set %d: %v", n, faulty, quorum.Is(n, all-faulty))
			}
		}
	}
}

func TestWhatFewSayIsSaidByOneWhoIsNotFaulty(t *testing.T) { // P6.4, P6.6
	for f, n := range sizes {
		l := make([]string, n)
		for liar := range f {
			l[liar] = "a lie"
		}
		wantAgreed(t, n, "", l...)
		for i := f; i < n; i++ {
			l[i] = "the truth"
		}
		wantAgreed(t, n, "the truth", l...)
	}
}

func FuzzAgreed(f *testing.F) { // P6.4
	f.Add(4, "a,b,a,")
	f.Add(4, "a,b")
	f.Add(7, "b,b,b,a,a,a,c,c")
	f.Add(5, ",b,a")
	f.Fuzz(func(t *testing.T, n int, said string) {
		l := strings.Split(said, ",")
		want, _ := agreed(n, l)
		wantAgreed(t, n, want, l...)
	})
}
