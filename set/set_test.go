package set

import (
	"cmp"
	"iter"
	"maps"
	"math"
	"slices"
	"strconv"
	"strings"
	"testing"
)

// valuesOf goes through a set by hand, so that a wrong Len or Has does not hide what All tells.
func valuesOf[T cmp.Ordered](s Set[T]) []T {
	values := []T{}
	for x := range s.All() {
		values = append(values, x)
	}
	return values
}

// pair is a key with its value, as All of a map tells them.
type pair[K cmp.Ordered, V any] struct {
	key   K
	value V
}

func pairsOf[K cmp.Ordered, V any](m Map[K, V]) []pair[K, V] {
	pairs := []pair[K, V]{}
	for k, v := range m.All() {
		pairs = append(pairs, pair[K, V]{k, v})
	}
	return pairs
}

// checkSet asks a set all that may be asked of it: it must have these, which are rising, and none of the others.
func checkSet[T cmp.Ordered](t *testing.T, what string, s Set[T], want, others []T) {
	t.Helper()
	if got := valuesOf(s); !slices.Equal(got, want) {
		t.Fatalf("%s: All tells %v, want %v", what, got, want)
	}
	if s.Len() != len(want) {
		t.Fatalf("%s: Len %d, want %d", what, s.Len(), len(want))
	}
	for _, x := range slices.Concat(want, others) {
		if s.Has(x) != slices.Contains(want, x) {
			t.Fatalf("%s: Has(%v): %v", what, x, s.Has(x))
		}
	}
}

// checkMap asks a map all that may be asked of it, of the keys that it has and of others.
func checkMap[K cmp.Ordered, V comparable](t *testing.T, what string, m Map[K, V], want []pair[K, V], others []K) {
	t.Helper()
	if got := pairsOf(m); !slices.Equal(got, want) {
		t.Fatalf("%s: All tells %v, want %v", what, got, want)
	}
	if m.Len() != len(want) {
		t.Fatalf("%s: Len %d, want %d", what, m.Len(), len(want))
	}
	for _, p := range want {
		if v, ok := m.Get(p.key); v != p.value || !ok {
			t.Fatalf("%s: Get(%v): %v, %v, want %v", what, p.key, v, ok, p.value)
		}
	}
	var none V
	for _, k := range others {
		if v, ok := m.Get(k); v != none || ok {
			t.Fatalf("%s: Get(%v): %v, %v, though it has none", what, k, v, ok)
		}
	}
}

// listsOf tells each list of at most longest elements that are among these.
func listsOf[T any](these []T, longest int) [][]T {
	lists := [][]T{nil}
	for next := 0; next < len(lists) && len(lists[next]) < longest; next++ {
		for _, x := range these {
			lists = append(lists, slices.Concat(lists[next], []T{x}))
		}
	}
	return lists
}

// rising says anew, by looking at each value in turn, what a list's set has.
func rising[T cmp.Ordered](candidates, list []T) []T {
	return slices.DeleteFunc(slices.Clone(candidates), func(x T) bool { return !slices.Contains(list, x) })
}

// P3.1: Of tells each value once, rising, whatever their order and number.
func TestOf(t *testing.T) {
	for _, x := range []struct{ list, want []int }{
		{nil, nil},
		{[]int{}, nil},
		{[]int{0}, []int{0}},
		{[]int{3, 1, 3}, []int{1, 3}},
		{[]int{1, 2, 3}, []int{1, 2, 3}},
		{[]int{3, 2, 1}, []int{1, 2, 3}},
		{[]int{5, 5, 5, 5}, []int{5}},
		{[]int{0, -1, 1, -1, 0}, []int{-1, 0, 1}},
		{[]int{math.MaxInt, math.MinInt, 0, math.MaxInt}, []int{math.MinInt, 0, math.MaxInt}},
		{[]int{10, 9, 100}, []int{9, 10, 100}},
	} {
		checkSet(t, "Of", Of(x.list...), x.want, []int{-2, 2, 4, 6, 99, math.MinInt + 1, math.MaxInt - 1})
	}
	checkSet(t, "Of()", Of[string](), nil, []string{"", "a"})
}

// P3.1: texts rise byte by byte, a shorter one ahead of one that it begins.
func TestOfTexts(t *testing.T) {
	for _, x := range []struct{ list, want []string }{
		{[]string{""}, []string{""}},
		{[]string{"b", "a", "b", "", "a/b"}, []string{"", "a", "a/b", "b"}},
		{[]string{"ab", "a", "abc", "b"}, []string{"a", "ab", "abc", "b"}},
		{[]string{"10", "9", "1"}, []string{"1", "10", "9"}},
		{[]string{"a", "B", "A", "b"}, []string{"A", "B", "a", "b"}},
		{[]string{"\xff", "\x00", "", "\x7f", "\x80", "\uFFFD"}, []string{"", "\x00", "\x7f", "\x80", "\uFFFD", "\xff"}},
		{[]string{"a\x00", "a", "\x00a"}, []string{"\x00a", "a", "a\x00"}},
		{[]string{"é", "e\u0301", "z"}, []string{"e\u0301", "z", "é"}},
	} {
		checkSet(t, "Of", Of(x.list...), x.want, []string{"c", "a/", "\x01", "\xfe", "e", "a\x00\x00"})
	}
}

// P3.1: sets are of any ordered type.
func TestSetsOfOtherTypes(t *testing.T) {
	type word string
	checkSet(t, "words", Of[word]("b", "a", "b"), []word{"a", "b"}, []word{"", "c"})
	checkSet(t, "bytes", Of[uint8](255, 0, 128, 255), []uint8{0, 128, 255}, []uint8{1, 254})
	checkSet(t, "int8", Of[int8](127, -128, 0), []int8{-128, 0, 127}, []int8{-1, 1})
	checkSet(t, "uint64", Of[uint64](math.MaxUint64, 0, 1<<63), []uint64{0, 1 << 63, math.MaxUint64}, []uint64{1, 1<<63 - 1})
	checkSet(t, "floats", Of(1.5, math.Inf(-1), 0, math.Inf(1)), []float64{math.Inf(-1), 0, 1.5, math.Inf(1)}, []float64{1, -1.5})
}

// P3.1: Of, With, Without, Has, Len and All at all lists of few values.
func TestAllShortLists(t *testing.T) {
	these := []int{-7, 0, 1, 9}
	candidates := []int{-8, -7, -6, 0, 1, 2, 9, 10}
	for _, list := range listsOf(these, 5) {
		s := Of(list...)
		checkSet(t, "Of", s, rising(candidates, list), candidates)
		for _, x := range candidates {
			with := rising(candidates, slices.Concat(list, []int{x}))
			checkSet(t, "With", s.With(x), with, candidates)
			without := slices.DeleteFunc(rising(candidates, list), func(y int) bool { return x == y })
			checkSet(t, "Without", s.Without(x), without, candidates)
			checkSet(t, "With, Without", s.With(x).Without(x), without, candidates)
			checkSet(t, "Without, With", s.Without(x).With(x), with, candidates)
		}
		checkSet(t, "the set itself", s, rising(candidates, list), candidates)
	}
}

// P3.1: a set that is built one by one is that of its values, in whatever order they come.
func TestWithOneByOne(t *testing.T) {
	texts := []string{"", "a", "a/b", "b"}
	for _, list := range listsOf(texts, 5) {
		var s Set[string]
		for _, x := range list {
			s = s.With(x)
		}
		checkSet(t, "With", s, rising(texts, list), []string{"a/", "aa", "c"})
		for _, x := range list {
			s = s.Without(x)
		}
		checkSet(t, "Without all", s, nil, texts)
	}
}

// P3.1: what isn't there is taken away, at the ends and between: nothing changes.
func TestWithoutWhatIsNotThere(t *testing.T) {
	s := Of("b", "d")
	for _, x := range []string{"", "a", "bb", "c", "dd", "e", "B", "b\x00", "\xff"} {
		checkSet(t, "Without", s.Without(x), []string{"b", "d"}, []string{x})
		checkSet(t, "Without from none", Set[string]{}.Without(x), nil, []string{x})
	}
}

// P3.1: Join at all pairs of sets of few values: which one is asked does not matter.
func TestJoin(t *testing.T) {
	these := []int{-3, 0, 2, 5}
	candidates := []int{-4, -3, 0, 1, 2, 5, 6}
	lists := listsOf(these, 4)
	for _, a := range lists {
		for _, b := range lists {
			one, other := Of(a...), Of(b...)
			want := rising(candidates, slices.Concat(a, b))
			checkSet(t, "Join", one.Join(other), want, candidates)
		}
	}
	checkSet(t, "Join of texts", Of("b", "", "d").Join(Of("c", "b", "a/b", "e")), []string{"", "a/b", "b", "c", "d", "e"}, []string{"a"})
	s := Of(1, 2)
	checkSet(t, "Join with itself", s.Join(s), []int{1, 2}, []int{0, 3})
}

// P3.1: a zero set is empty, and may be asked everything.
func TestZeroSet(t *testing.T) {
	var zero Set[int]
	checkSet(t, "zero", zero, nil, []int{0, 1, -1})
	checkSet(t, "With", zero.With(0), []int{0}, []int{1, -1})
	checkSet(t, "Without", zero.Without(0), nil, []int{0})
	checkSet(t, "Join of zeros", zero.Join(zero), nil, []int{0})
	checkSet(t, "Join with one", zero.Join(Of(4, 2)), []int{2, 4}, []int{0, 3})
	checkSet(t, "Join of one", Of(4, 2).Join(zero), []int{2, 4}, []int{0, 3})
	if zero.All() == nil || (Set[string]{}).All() == nil {
		t.Error("a range that is nil")
	}
	var texts Set[string]
	checkSet(t, "zero of texts", texts, nil, []string{""})
	checkSet(t, "the empty text", texts.With(""), []string{""}, []string{"\x00"})
}

// leftAfter goes through a range and leaves it after so many steps.
func leftAfter[T any](all iter.Seq[T], steps int) []T {
	var seen []T
	for x := range all {
		if len(seen) == steps {
			break
		}
		seen = append(seen, x)
	}
	return seen
}

// P3.1: a range may be left at each place, begun again, and be within another one.
func TestRangesOfSets(t *testing.T) {
	want := []int{1, 3, 5, 7}
	all := Of(7, 3, 5, 1).All()
	for steps := range len(want) + 1 {
		if got := leftAfter(all, steps); !slices.Equal(got, want[:steps]) {
			t.Errorf("left after %d: %v", steps, got)
		}
	}
	var sums []int
	for x := range all {
		for y := range all {
			if y > x {
				break
			}
			sums = append(sums, 10*x+y)
		}
	}
	if !slices.Equal(sums, []int{11, 31, 33, 51, 53, 55, 71, 73, 75, 77}) {
		t.Error(sums)
	}
	called := 0
	all(func(int) bool { called++; return called < 2 })
	if called != 2 {
		t.Errorf("a range that is left is gone on with: %d", called)
	}
}

// P3.2: Put, Drop, Get, Len and All of ordinary maps.
func TestMap(t *testing.T) {
	var m Map[string, int]
	m = m.Put("b", 2).Put("a", 1).Put("", 7).Put("a/b", 4)
	checkMap(t, "Put", m, []pair[string, int]{{"", 7}, {"a", 1}, {"a/b", 4}, {"b", 2}}, []string{"c", "a/", "A", "\x00"})
	checkMap(t, "Put again", m.Put("a", 9), []pair[string, int]{{"", 7}, {"a", 9}, {"a/b", 4}, {"b", 2}}, []string{"c"})
	checkMap(t, "Put the same again", m.Put("b", 2), []pair[string, int]{{"", 7}, {"a", 1}, {"a/b", 4}, {"b", 2}}, []string{"c"})
	checkMap(t, "Drop", m.Drop("a"), []pair[string, int]{{"", 7}, {"a/b", 4}, {"b", 2}}, []string{"a"})
	checkMap(t, "Drop the first", m.Drop(""), []pair[string, int]{{"a", 1}, {"a/b", 4}, {"b", 2}}, []string{""})
	checkMap(t, "Drop the last", m.Drop("b"), []pair[string, int]{{"", 7}, {"a", 1}, {"a/b", 4}}, []string{"b"})
	checkMap(t, "Drop, Put", m.Drop("a").Put("a", 3), []pair[string, int]{{"", 7}, {"a", 3}, {"a/b", 4}, {"b", 2}}, []string{"c"})
	for _, k := range []string{"A", "\x00", "aa", "a/", "bb", "\xff"} {
		checkMap(t, "Drop what isn't there", m.Drop(k), []pair[string, int]{{"", 7}, {"a", 1}, {"a/b", 4}, {"b", 2}}, []string{k})
	}
}

// P3.2: a zero value that was put is there; no value is not.
func TestZeroValues(t *testing.T) {
	var m Map[int, string]
	m = m.Put(0, "")
	if v, ok := m.Get(0); v != "" || !ok {
		t.Errorf("%q, %v", v, ok)
	}
	checkMap(t, "a zero value", m, []pair[int, string]{{0, ""}}, []int{1, -1})
	var lists Map[string, []int]
	lists = lists.Put("a", nil).Put("b", []int{1})
	if v, ok := lists.Get("a"); v != nil || !ok {
		t.Error(v, ok)
	}
	if v, ok := lists.Get("b"); !slices.Equal(v, []int{1}) || !ok {
		t.Error(v, ok)
	}
	if v, ok := lists.Get("c"); v != nil || ok {
		t.Error(v, ok)
	}
}

// P3.2: a zero map is empty, and may be asked everything.
func TestZeroMap(t *testing.T) {
	var zero Map[int, string]
	checkMap(t, "zero", zero, nil, []int{0, 1, -1, math.MinInt})
	checkMap(t, "Drop", zero.Drop(0), nil, []int{0})
	checkMap(t, "Put", zero.Put(-1, "x"), []pair[int, string]{{-1, "x"}}, []int{0, 1})
	checkMap(t, "Put, Drop", zero.Put(-1, "x").Drop(-1), nil, []int{-1})
	if zero.All() == nil {
		t.Error("a range that is nil")
	}
}

// P3.2: whole numbers of each end as keys, and maps as values of maps.
func TestMapsOfOtherTypes(t *testing.T) {
	var m Map[int, bool]
	m = m.Put(math.MaxInt, true).Put(0, true).Put(math.MinInt, true).Put(-1, false)
	checkMap(t, "ints", m, []pair[int, bool]{{math.MinInt, true}, {-1, false}, {0, true}, {math.MaxInt, true}}, []int{1, math.MinInt + 1, math.MaxInt - 1})
	var inner Map[string, int]
	var outer Map[uint8, Map[string, int]]
	outer = outer.Put(255, inner.Put("a", 1)).Put(0, inner)
	got, ok := outer.Get(255)
	checkMap(t, "a map in a map", got, []pair[string, int]{{"a", 1}}, []string{"b"})
	none, absent := outer.Get(7)
	checkMap(t, "no map in a map", none, nil, []string{"a"})
	if !ok || absent || outer.Len() != 2 {
		t.Error(ok, absent, outer.Len())
	}
}

// change is a Put of a value, or a Drop where there is none.
type change struct {
	key   int
	value string
}

func changed(m Map[int, string], c change) Map[int, string] {
	if c.value == "" {
		return m.Drop(c.key)
	}
	return m.Put(c.key, c.value)
}

// P3.2, P3.3: all short rows of changes, held against Go's own map; each map on the way stays as it was.
func TestAllShortRowsOfChanges(t *testing.T) {
	keys := []int{-5, 0, 4}
	var changes []change
	for _, k := range keys {
		changes = append(changes, change{k, "x"}, change{k, "y"}, change{k, ""})
	}
	for _, row := range listsOf(changes, 4) {
		met := []Map[int, string]{{}}
		want := []map[int]string{{}}
		for i, c := range row {
			met = append(met, changed(met[i], c))
			next := maps.Clone(want[i])
			next[c.key] = c.value
			maps.DeleteFunc(next, func(_ int, v string) bool { return v == "" })
			want = append(want, next)
		}
		for i, m := range met {
			var pairs []pair[int, string]
			absent := []int{-6, 1, 5}
			for _, k := range keys {
				if v, ok := want[i][k]; ok {
					pairs = append(pairs, pair[int, string]{k, v})
				} else {
					absent = append(absent, k)
				}
			}
			checkMap(t, "a row of changes", m, pairs, absent)
		}
	}
}

// P3.2: a range over a map may be left at each place, begun again, and be within another one.
func TestRangesOfMaps(t *testing.T) {
	var m Map[int, string]
	m = m.Put(5, "e").Put(1, "a").Put(3, "c")
	all := m.All()
	want := []string{"1a", "3c", "5e"}
	for steps := range len(want) + 1 {
		var seen []string
		for k, v := range all {
			if len(seen) == steps {
				break
			}
			seen = append(seen, strconv.Itoa(k)+v)
		}
		if !slices.Equal(seen, want[:steps]) {
			t.Errorf("left after %d: %v", steps, seen)
		}
	}
	var nested strings.Builder
	for _, v := range all {
		for _, w := range all {
			nested.WriteString(v + w + " ")
			if v == w {
				break
			}
		}
	}
	if nested.String() != "aa ca cc ea ec ee " {
		t.Error(nested.String())
	}
	called := 0
	all(func(int, string) bool { called++; return called < 2 })
	if called != 2 {
		t.Errorf("a range that is left is gone on with: %d", called)
	}
}

// P3.3: sets that were made of one set stay as they were, whichever is made next of it.
func TestSetsStay(t *testing.T) {
	candidates := []int{0, 1, 2, 3, 4, 5, 6, 7, 8}
	for _, list := range listsOf([]int{1, 3, 5, 7}, 4) {
		s := Of(list...)
		want := rising(candidates, list)
		all := s.All()
		var made []Set[int]
		var told [][]int
		note := func(next Set[int]) {
			made, told = append(made, next), append(told, valuesOf(next))
		}
		for _, x := range candidates {
			note(s.With(x))
			note(s.Without(x))
			note(s.Join(Of(x, x+1)))
			note(Of(x, x+1).Join(s))
		}
		for i, old := range slices.Clone(made) {
			note(old.With(i % 9))
			note(old.Without(i % 9))
			note(old.Join(s))
		}
		for i, next := range made {
			checkSet(t, "a set that was made", next, told[i], nil)
		}
		checkSet(t, "the set that they were made of", s, want, candidates)
		if got := slices.Collect(all); !slices.Equal(got, want) {
			t.Fatalf("the range that was told ahead: %v, want %v", got, want)
		}
	}
}

// P3.3: two that are made of one set have memory of their own: what is put into one is not in the other.
func TestSiblingsStay(t *testing.T) {
	s := Of(1, 2, 3)
	for range 20 {
		s = s.With(s.Len() + 1)
		joined := s.Join(Of(0, 1))
		a, b := s.With(100), s.With(200)
		c, d := joined.With(100), joined.With(200)
		if !a.Has(100) || a.Has(200) || !b.Has(200) || b.Has(100) || s.Has(100) || s.Has(200) {
			t.Fatalf("With of %d values", s.Len())
		}
		if !c.Has(100) || c.Has(200) || !d.Has(200) || d.Has(100) || joined.Has(100) || joined.Has(200) {
			t.Fatalf("With of a joined one of %d values", joined.Len())
		}
	}
}

// P3.3: the same of maps.
func TestMapsStay(t *testing.T) {
	var m Map[int, string]
	for k := range 20 {
		m = m.Put(2*k, "m")
		told := pairsOf(m)
		all := m.All()
		var made []Map[int, string]
		var pairs [][]pair[int, string]
		for x := -1; x < 2*k+2; x++ {
			for _, next := range []Map[int, string]{m.Put(x, "a"), m.Put(x, "b"), m.Drop(x), m.Drop(x).Put(x+1, "c"), m.Put(x, "d").Drop(x + 1)} {
				made, pairs = append(made, next), append(pairs, pairsOf(next))
			}
		}
		for i, next := range made {
			checkMap(t, "a map that was made", next, pairs[i], nil)
		}
		checkMap(t, "the map that they were made of", m, told, []int{-1, 1})
		var again []pair[int, string]
		for k, v := range all {
			again = append(again, pair[int, string]{k, v})
		}
		if !slices.Equal(again, told) {
			t.Fatalf("the range that was told ahead: %v, want %v", again, told)
		}
	}
}

// P3.3: a set that is gone through stays as it was, whatever is made of it meanwhile.
func TestChangesWithinRanges(t *testing.T) {
	s := Of("a", "b", "c")
	var seen []string
	for x := range s.All() {
		seen = append(seen, x)
		s = s.Without("b").With(x + "x").With("z")
	}
	if !slices.Equal(seen, []string{"a", "b", "c"}) {
		t.Error(seen)
	}
	checkSet(t, "what was made", s, []string{"a", "ax", "bx", "c", "cx", "z"}, []string{"b"})
	var m Map[int, int]
	m = m.Put(1, 10).Put(2, 20)
	sum := 0
	for k, v := range m.All() {
		sum += v
		m = m.Drop(2).Put(k, 7).Put(3, 30)
	}
	if sum != 30 {
		t.Error(sum)
	}
}

// P3.3, R4: the list of Of is neither changed nor kept, and what lies behind its length does not count.
func TestOfLeavesTheList(t *testing.T) {
	whole := []int{5, 3, 5, 1, 0, -1}
	before := slices.Clone(whole)
	s := Of(whole[:4]...)
	if !slices.Equal(whole, before) {
		t.Fatalf("%v, was %v", whole, before)
	}
	u := s.With(9)
	checkSet(t, "Of", s, []int{1, 3, 5}, []int{0, -1})
	clear(whole)
	checkSet(t, "the list is written over", s, []int{1, 3, 5}, []int{0, -1})
	checkSet(t, "With, the list is written over", u, []int{1, 3, 5, 9}, []int{0, -1})
	risen := []int{1, 2, 3}
	v := Of(risen...)
	risen[0] = 8
	checkSet(t, "a list that is rising", v, []int{1, 2, 3}, []int{8})
}

// P3.1, P3.2: many values, far beyond what is asked by hand.
func TestMany(t *testing.T) {
	const n = 1 << 11
	var list, want []int
	for i := range n {
		list = append(list, i*1237%n)
		want = append(want, i)
	}
	s := Of(slices.Concat(list, list)...)
	checkSet(t, "Of many", s, want, nil)
	var one Set[int]
	var m Map[int, int]
	for _, x := range list {
		one, m = one.With(x), m.Put(x, -x)
	}
	checkSet(t, "With of many", one, want, nil)
	checkSet(t, "Join of many", one.Join(Of(n, -1)), slices.Concat([]int{-1}, want, []int{n}), nil)
	place := 0
	for k, v := range m.All() {
		if k != place || v != -k {
			t.Fatal(place, k, v)
		}
		place++
	}
	if place != n || m.Len() != n {
		t.Error(place, m.Len())
	}
	for _, x := range list {
		one, m = one.Without(x), m.Drop(x)
	}
	if one.Len() != 0 || m.Len() != 0 {
		t.Error(one.Len(), m.Len())
	}
}

// P1: even of NaN, of which nothing is promised, every call ends, and none panics.
func TestNaN(t *testing.T) {
	nan := math.NaN()
	s := Of(nan, 1, nan).With(nan).Without(nan).Join(Of(nan, 2, nan)).Without(1)
	s.Has(nan)
	valuesOf(s)
	var m Map[float64, int]
	m = m.Put(nan, 1).Put(nan, 2).Put(0, 3).Drop(nan)
	m.Get(nan)
	pairsOf(m)
	if v, ok := m.Get(0); v != 3 || !ok {
		t.Error(v, ok)
	}
}

// R6: the same call on the same state has the same answer, each time.
func TestSameAnswer(t *testing.T) {
	s := Of("b", "a", "")
	var m Map[string, int]
	m = m.Put("b", 1).Put("a", 2)
	for range 50 {
		checkSet(t, "again", s, []string{"", "a", "b"}, []string{"c"})
		checkSet(t, "With again", s.With("c"), []string{"", "a", "b", "c"}, nil)
		checkMap(t, "again", m, []pair[string, int]{{"a", 2}, {"b", 1}}, []string{"c"})
	}
}
