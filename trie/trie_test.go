package trie

import (
	"iter"
	"maps"
	"math"
	"slices"
	"strconv"
	"strings"
	"testing"

	"bellman/api"
	"bellman/match"
	"bellman/set"
	"bellman/topic"
)

// pair is a filter with one of its subscribers.
type pair struct {
	filter string
	sub    int
}

// others are filters that are asked for besides those that a trie has.
var others = []string{"a", "b", "a/b", "a/+", "a/#", "+", "#", "+/b", "/", "a/", "/a", "//", "$s", "$s/#", "a/b/c", "+/+", "+/#", "aa", "A", "\xff"}

// otherSubs are subscribers that are asked for besides those that a trie has.
var otherSubs = []int{0, 1, 2, 3, -1, 9, math.MinInt, math.MaxInt, 1<<32 + 1}

// wrongs are no filters.
var wrongs = []string{"", "a#", "#a", "+a", "a+", "a/#/b", "#/", "#/#", "/+a", "++", "##", "+#", "\x00", "a\x00", "a/\x00", strings.Repeat("a", 33), strings.Repeat("/", 33)}

// topics are what is matched of each trie, some of which are no topics.
var topics = []string{"a", "b", "c", "a/b", "a/c", "b/a", "a/b/c", "a/b/d", "b/b", "/", "//", "a/", "/a", "a//b", "$s", "$s/x", "$s/x/y", "$", "a/$s", "aa", "A", "\xff", "é", "x", "", "+", "#", "a/+", "a/#", "a\x00", strings.Repeat("a", 33)}

// of tells the trie of these, which are put into it in their order.
func of(t *testing.T, pairs ...pair) Trie {
	t.Helper()
	var x Trie
	for _, p := range pairs {
		x = added(t, x, p)
	}
	return x
}

func added(t *testing.T, x Trie, p pair) Trie {
	t.Helper()
	next, err := x.Add(p.filter, p.sub)
	if err != api.OK {
		t.Fatalf("Add(%q, %d): %d", p.filter, p.sub, err)
	}
	return next
}

func dropped(t *testing.T, x Trie, p pair) Trie {
	t.Helper()
	next, err := x.Drop(p.filter, p.sub)
	if err != api.OK {
		t.Fatalf("Drop(%q, %d): %d", p.filter, p.sub, err)
	}
	return next
}

// places tells what the filters' levels lead to, or through: the root is a dot, each other node's place has its parent's and its level.
func places(filters ...string) []string {
	if len(filters) == 0 {
		return nil
	}
	all := map[string]bool{".": true}
	for _, filter := range filters {
		place := "."
		for level := range strings.SplitSeq(filter, "/") {
			place += "/" + level
			all[place] = true
		}
	}
	return slices.Sorted(maps.Keys(all))
}

func filtersOf(pairs []pair) []string {
	var filters []string
	for _, p := range pairs {
		filters = append(filters, p.filter)
	}
	return filters
}

// matching tells the subscribers of these that have a filter that matches.
func matching(pairs []pair, topic string) []int {
	subs := map[int]bool{}
	for _, p := range pairs {
		if match.Match(p.filter, topic) {
			subs[p.sub] = true
		}
	}
	return slices.Sorted(maps.Keys(subs))
}

func subsOf(s set.Set[int]) []int {
	return slices.Collect(s.All())
}

// check asks a trie all that may be asked, twice, as asking changes nothing: these are its pairs.
func check(t *testing.T, what string, x Trie, pairs ...pair) {
	t.Helper()
	nodes := len(places(filtersOf(pairs)...))
	for range 2 {
		if x.Len() != len(pairs) {
			t.Fatalf("%s: Len %d, want %d", what, x.Len(), len(pairs))
		}
		if x.Size() != max(0, nodes-1) {
			t.Fatalf("%s: Size %d, want %d", what, x.Size(), max(0, nodes-1))
		}
		if x.Copied(Trie{}) != nodes || x.Copied(x) != 0 || (Trie{}).Copied(x) != 0 {
			t.Fatalf("%s: Copied of an empty one %d, want %d; of itself %d, of an empty one by it %d", what, x.Copied(Trie{}), nodes, x.Copied(x), Trie{}.Copied(x))
		}
		checkHas(t, what, x, pairs)
		for _, topic := range topics {
			got, want := x.Match(topic), matching(pairs, topic)
			if !slices.Equal(subsOf(got), want) || got.Len() != len(want) {
				t.Fatalf("%s: Match(%q) %v, want %v", what, topic, subsOf(got), want)
			}
		}
	}
}

func checkHas(t *testing.T, what string, x Trie, pairs []pair) {
	t.Helper()
	for _, p := range pairs {
		if !x.Has(p.filter, p.sub) {
			t.Fatalf("%s: it hasn't %v", what, p)
		}
	}
	for _, filter := range others {
		for _, sub := range otherSubs {
			if p := (pair{filter, sub}); x.Has(filter, sub) != slices.Contains(pairs, p) {
				t.Fatalf("%s: Has of %v: %v", what, p, x.Has(filter, sub))
			}
		}
	}
	for _, wrong := range wrongs {
		for _, sub := range otherSubs {
			if x.Has(wrong, sub) {
				t.Fatalf("%s: it has %q, which is no filter", what, wrong)
			}
		}
	}
}

// same tells whether two tries have the very same nodes, and as many pairs.
func same(x, y Trie) bool {
	return x.Copied(y) == 0 && y.Copied(x) == 0 && x.Len() == y.Len() && x.Size() == y.Size()
}

// checkErrors asks for all errors that a trie of these pairs may answer: beside each it is as it was.
func checkErrors(t *testing.T, what string, x Trie, pairs ...pair) {
	t.Helper()
	refused := func(call string, p pair, next Trie, err, want api.Errno) {
		t.Helper()
		if err != want || !same(next, x) {
			t.Fatalf("%s: %s of %v: %d, want %d; the same: %v", what, call, p, err, want, same(next, x))
		}
	}
	both := func(p pair, add, drop api.Errno) {
		t.Helper()
		if add != api.OK {
			next, err := x.Add(p.filter, p.sub)
			refused("Add", p, next, err, add)
		}
		if drop != api.OK {
			next, err := x.Drop(p.filter, p.sub)
			refused("Drop", p, next, err, drop)
		}
	}
	for _, p := range pairs {
		both(p, api.ErrTwice, api.OK)
	}
	for _, sub := range otherSubs {
		for _, filter := range others {
			if p := (pair{filter, sub}); !slices.Contains(pairs, p) {
				both(p, api.OK, api.ErrAbsent)
			}
		}
		for _, wrong := range wrongs {
			both(pair{wrong, sub}, api.ErrFilter, api.ErrFilter)
		}
	}
	check(t, what+", behind errors", x, pairs...)
}

// orders tells all orders of these.
func orders[T any](l []T) iter.Seq[[]T] {
	return func(yield func([]T) bool) {
		if len(l) == 0 {
			yield(nil)
			return
		}
		for i := range l {
			for order := range orders(slices.Delete(slices.Clone(l), i, i+1)) {
				if !yield(append(order, l[i])) {
					return
				}
			}
		}
	}
}

// without tells the pairs but that one.
func without(pairs []pair, p pair) []pair {
	return slices.DeleteFunc(slices.Clone(pairs), func(q pair) bool { return p == q })
}

// P13.2: the chapter's example.
func TestExample(t *testing.T) {
	x := of(t, pair{"a/+", 1}, pair{"a/#", 2})
	if got := subsOf(x.Match("a/b")); !slices.Equal(got, []int{1, 2}) {
		t.Fatal(got)
	}
	if got := subsOf(x.Match("a")); !slices.Equal(got, []int{2}) {
		t.Fatal(got)
	}
	check(t, "a/+ of 1, a/# of 2", x, pair{"a/+", 1}, pair{"a/#", 2})
}

// P13.1: a zero trie is empty, and what is made of it has that pair alone.
func TestZero(t *testing.T) {
	var zero Trie
	checkErrors(t, "zero", zero)
	for _, filter := range others {
		for _, sub := range otherSubs {
			x := added(t, zero, pair{filter, sub})
			check(t, "one pair", x, pair{filter, sub})
			check(t, "none again", dropped(t, x, pair{filter, sub}))
		}
	}
	check(t, "zero", zero)
}

// P13.1: pairs that are added in any order, and dropped in any order; Len and all else behind each.
func TestAnyOrder(t *testing.T) {
	pairs := []pair{{"a", 1}, {"a/b", 2}, {"a/b", 1}, {"a/+/c", 1}, {"/", 3}}
	for order := range orders(pairs) {
		var x Trie
		for i, p := range order {
			x = added(t, x, p)
			check(t, "added", x, order[:i+1]...)
		}
		checkErrors(t, "all", x, pairs...)
		for turn := range orders([]int{0, 1, 2, 3, 4}) {
			y, left := x, pairs
			for _, i := range turn[:3] {
				y, left = dropped(t, y, pairs[i]), without(left, pairs[i])
			}
			check(t, "three are dropped", y, left...)
		}
	}
	x := of(t, pairs...)
	for order := range orders(pairs) {
		y, left := x, pairs
		for _, p := range order {
			y, left = dropped(t, y, p), without(left, p)
			checkErrors(t, "dropped", y, left...)
		}
		check(t, "all are dropped, one again", added(t, y, pair{"b", 4}), pair{"b", 4})
	}
}

// P13.1: one filter of several subscribers, and one subscriber of several filters, are as many pairs.
func TestSeveral(t *testing.T) {
	x := of(t, pair{"a/b", 3}, pair{"a/b", 1}, pair{"a/b", 2})
	checkErrors(t, "one filter", x, pair{"a/b", 1}, pair{"a/b", 2}, pair{"a/b", 3})
	x = dropped(t, x, pair{"a/b", 2})
	checkErrors(t, "one of them is dropped", x, pair{"a/b", 1}, pair{"a/b", 3})
	x = of(t, pair{"a/b", 1}, pair{"a", 1}, pair{"#", 1}, pair{"a/+", 1})
	checkErrors(t, "one subscriber", x, pair{"a", 1}, pair{"a/b", 1}, pair{"#", 1}, pair{"a/+", 1})
	x = dropped(t, x, pair{"a", 1})
	checkErrors(t, "one of them is dropped", x, pair{"a/b", 1}, pair{"#", 1}, pair{"a/+", 1})
}

// P13.1: a pair that isn't there: its filter's node has another subscriber, or has none as it only leads to others, or isn't there.
func TestAbsent(t *testing.T) {
	x := of(t, pair{"a/b/c", 1}, pair{"a", 2}, pair{"/", 3})
	absent := map[string]pair{
		"another subscriber's":        {"a/b/c", 2},
		"another one's, ahead":        {"a", 1},
		"leads to others":             {"a/b", 1},
		"the empty level leads":       {"", 3},
		"no such node":                {"b", 1},
		"no such node, behind":        {"a/b/c/d", 1},
		"no such node, far behind":    {"a/b/c/d/e/f", 1},
		"no such node, beside":        {"a/b/d", 1},
		"no such node, an empty one":  {"a/", 2},
		"no such node, empty, ahead":  {"/a", 2},
		"a mark that matches":         {"a/+/c", 1},
		"a mark that matches it all":  {"#", 1},
		"the parent of none":          {"a/#", 2},
		"its levels without a border": {"ab/c", 1},
	}
	for what, p := range absent {
		want := api.ErrAbsent
		if p.filter == "" {
			want = api.ErrFilter
		}
		next, err := x.Drop(p.filter, p.sub)
		if err != want || !same(next, x) || x.Has(p.filter, p.sub) {
			t.Errorf("%s: Drop %d, want %d; the same: %v, Has %v", what, err, want, same(next, x), x.Has(p.filter, p.sub))
		}
		if want == api.ErrAbsent {
			check(t, what, added(t, x, p), pair{"a/b/c", 1}, pair{"a", 2}, pair{"/", 3}, p)
		}
	}
	checkErrors(t, "all of it", x, pair{"a/b/c", 1}, pair{"a", 2}, pair{"/", 3})
	x = dropped(t, x, pair{"a", 2})
	if next, err := x.Drop("a", 2); err != api.ErrAbsent || !same(next, x) {
		t.Error("dropped already", err)
	}
	checkErrors(t, "its node leads to others now", x, pair{"a/b/c", 1}, pair{"/", 3})
}

// P13.1: what is no filter is told as such, first: also of what else would be there twice, or absent.
func TestNoFilter(t *testing.T) {
	tries := map[string][]pair{
		"empty":            nil,
		"empty levels":     {{"/", 1}, {"//", 2}, {"/a", 3}},
		"signs":            {{"+", 1}, {"#", 2}, {"+/#", 3}, {"/+", 1}},
		"as long as it is": {{strings.Repeat("a", 32), 1}, {strings.Repeat("/", 32), 2}},
		"others":           {{"a", 1}, {"a/b", 0}},
	}
	for what, pairs := range tries {
		checkErrors(t, what, of(t, pairs...), pairs...)
	}
	long := []string{strings.Repeat("a", 1<<20), strings.Repeat("/", 1<<20), strings.Repeat("a/", 1<<18) + "#", strings.Repeat("+/", 1<<18)}
	x := of(t, pair{"a", 1}, pair{"/", 1}, pair{"#", 1})
	for _, text := range long {
		for _, from := range []Trie{x, {}} {
			next, err := from.Add(text, 1)
			if err != api.ErrFilter || !same(next, from) {
				t.Error("Add of a long text", err)
			}
			next, err = from.Drop(text, 1)
			if err != api.ErrFilter || !same(next, from) {
				t.Error("Drop of a long text", err)
			}
			if from.Has(text, 1) || from.Match(text).Len() != 0 {
				t.Error("a long text is there")
			}
		}
	}
}

// P13.1: filters with empty levels, each of its own.
func TestEmptyLevels(t *testing.T) {
	pairs := []pair{{"/", 1}, {"//", 1}, {"/a", 1}, {"a/", 1}, {"a//b", 1}, {"a/b", 1}, {"/+", 1}, {"/#", 1}, {"+/", 1}, {"//a", 1}, {strings.Repeat("/", 32), 1}}
	for order := range orders(pairs[:5]) {
		x := of(t, order...)
		check(t, "empty levels", x, order...)
		check(t, "one is dropped", dropped(t, x, order[2]), without(order, order[2])...)
	}
	checkErrors(t, "all", of(t, pairs...), pairs...)
	for _, p := range pairs {
		checkErrors(t, p.filter, of(t, p), p)
		check(t, p.filter+" is dropped", dropped(t, of(t, pairs...), p), without(pairs, p)...)
	}
}

// P13.1: filters that begin with a sign are added and dropped as others are.
func TestSigns(t *testing.T) {
	pairs := []pair{{"$", 1}, {"$s", 2}, {"$s/#", 3}, {"$s/+", 4}, {"$/a", 5}, {"$$", 6}, {"+", 7}, {"#", 8}, {"+/#", 9}, {"+/x", 10}, {"!", 11}, {"-/*", 12}}
	x := of(t, pairs...)
	checkErrors(t, "signs", x, pairs...)
	left := pairs
	for _, p := range pairs {
		x, left = dropped(t, x, p), without(left, p)
		checkErrors(t, p.filter+" is dropped", x, left...)
	}
}

// P13.1: any number is a subscriber as others are.
func TestAnySub(t *testing.T) {
	subs := []int{math.MinInt, -1 << 32, -9, -1, 0, 1, 8, 9, 1 << 32, 1<<32 + 1, math.MaxInt}
	var x Trie
	var pairs []pair
	for _, sub := range slices.Backward(subs) {
		pairs = append(pairs, pair{"a/+", sub})
		x = added(t, x, pair{"a/+", sub})
		checkErrors(t, "added", x, pairs...)
	}
	if got := subsOf(x.Match("a/b")); !slices.Equal(got, subs) {
		t.Fatal(got)
	}
	for i, p := range pairs {
		x = dropped(t, x, p)
		checkErrors(t, "dropped", x, pairs[i+1:]...)
	}
}

// P13.2: every kind of filter, with topics that it matches and ones that it doesn't, on its own and beside all the others.
func TestMatch(t *testing.T) {
	cases := []struct {
		filter  string
		matches []string
		not     []string
	}{
		{"a", []string{"a"}, []string{"b", "A", "aa", "a/", "/a", "a/b", "$a"}},
		{"a/b", []string{"a/b"}, []string{"a", "b", "a/c", "b/b", "a/b/", "a/b/c", "ab", "a//b"}},
		{"+", []string{"a", "b", "aa", "a$"}, []string{"/", "a/b", "a/", "/a", "$", "$s"}},
		{"+/+", []string{"/", "a/b", "a/", "/a", "a/$"}, []string{"a", "//", "a/b/c", "$s/a", "$/"}},
		{"+/b", []string{"a/b", "/b", "b/b"}, []string{"b", "a/c", "a/b/b", "$s/b"}},
		{"a/+", []string{"a/b", "a/", "a/$s"}, []string{"a", "b/b", "a/b/c", "a//"}},
		{"a/+/c", []string{"a/b/c", "a//c", "a/a/c"}, []string{"a/c", "a/b", "a/b/c/c", "b/b/c", "a/b/d"}},
		{"/+", []string{"/", "/a"}, []string{"a", "a/a", "//", "/a/b"}},
		{"+/", []string{"/", "a/"}, []string{"a", "a/a", "//", "$s/"}},
		{"#", []string{"a", "/", "a/b", "//", "a/b/c", "a/$"}, []string{"$", "$s", "$s/a", "$/"}},
		{"a/#", []string{"a", "a/", "a/b", "a/b/c", "a//"}, []string{"b", "aa", "/a", "b/a", "$a"}},
		{"a/b/#", []string{"a/b", "a/b/", "a/b/c", "a/b/c/d"}, []string{"a", "a/c", "b/b", "a/bb", "a/c/b"}},
		{"/#", []string{"/", "/a", "//", "/a/b"}, []string{"a", "a/", "a/b"}},
		{"+/#", []string{"a", "/", "a/b", "a/b/c"}, []string{"$", "$s", "$s/a"}},
		{"a/+/#", []string{"a/b", "a/", "a/b/c"}, []string{"a", "b/b", "b"}},
		{"+/+/#", []string{"/", "a/b", "a/b/c"}, []string{"a", "$s/a", "$s/a/b"}},
		{"$s", []string{"$s"}, []string{"s", "$", "$s/a", "a/$s"}},
		{"$s/#", []string{"$s", "$s/", "$s/a", "$s/a/b"}, []string{"$", "$t", "s", "a", "a/$s", "$ss"}},
		{"$s/+", []string{"$s/a", "$s/"}, []string{"$s", "$s/a/b", "$t/a", "a/a"}},
		{"$s/+/x", []string{"$s/a/x"}, []string{"$s/x", "$s/a/y"}},
		{"/", []string{"/"}, []string{"a", "//", "/a", "a/"}},
		{"//", []string{"//"}, []string{"/", "///", "a//", "/a/"}},
		{"a//b", []string{"a//b"}, []string{"a/b", "a/a/b", "a///b"}},
		{"a/$", []string{"a/$"}, []string{"$", "a", "a/a"}},
		{"\xff/\x01", []string{"\xff/\x01"}, []string{"\xff", "\xff/\x02"}},
	}
	var all []pair
	for i, c := range cases {
		all = append(all, pair{c.filter, i})
	}
	full := of(t, all...)
	for i, c := range cases {
		one := of(t, pair{c.filter, i})
		ask := func(topic string, want bool) {
			t.Helper()
			if got := subsOf(one.Match(topic)); slices.Contains(got, i) != want || len(got) > 1 {
				t.Errorf("%q alone: Match(%q) %v, want it: %v", c.filter, topic, got, want)
			}
			if got := full.Match(topic); got.Has(i) != want {
				t.Errorf("%q beside others: Match(%q) %v, want it: %v", c.filter, topic, subsOf(got), want)
			}
			if got := subsOf(full.Match(topic)); !slices.Equal(got, matching(all, topic)) {
				t.Errorf("all: Match(%q) %v, want %v", topic, got, matching(all, topic))
			}
		}
		for _, topic := range c.matches {
			ask(topic, true)
		}
		for _, topic := range c.not {
			ask(topic, false)
		}
		for _, wrong := range []string{"", "+", "#", "a/+", "a/#", "a+", c.filter + "\x00", c.filter + strings.Repeat("/a", 16)} {
			ask(wrong, false)
		}
	}
}

// P13.2: what is no topic has no subscribers, though filters would match its levels, or are it.
func TestNoTopic(t *testing.T) {
	pairs := []pair{{"#", 1}, {"+", 2}, {"+/+", 3}, {"a/+", 4}, {"a/#", 5}, {"/", 6}, {"+/#", 7}, {strings.Repeat("a", 32), 8}, {"/#", 9}}
	x := of(t, pairs...)
	for _, wrong := range slices.Concat(wrongs, []string{"+", "#", "+/+", "a/+", "a/#", "a/b+", "a/b#", "+/#", "/#", "\x00/a", "$s/\x00", "$s/+", "$" + strings.Repeat("s", 32), strings.Repeat("/", 1<<20)}) {
		for range 2 {
			if got := x.Match(wrong); got.Len() != 0 || subsOf(got) != nil {
				t.Errorf("%.40q: %v", wrong, subsOf(got))
			}
		}
	}
	if got := subsOf(x.Match(strings.Repeat("a", 32))); !slices.Equal(got, []int{1, 2, 7, 8}) {
		t.Error("as long as a topic is:", got)
	}
	if got := subsOf(x.Match(strings.Repeat("/", 32))); !slices.Equal(got, []int{1, 7, 9}) {
		t.Error("as deep as a topic is:", got)
	}
}

// P13.2: who has several filters that match is told once, whatever leads there.
func TestOnce(t *testing.T) {
	var pairs []pair
	for _, filter := range []string{"#", "+/#", "a/#", "a/b/#", "+/b", "+/+", "a/+", "a/b", "+/+/#", "a/+/#", "+/b/#"} {
		pairs = append(pairs, pair{filter, 7})
	}
	x := of(t, pairs...)
	check(t, "one subscriber", x, pairs...)
	for i, p := range pairs {
		if got := subsOf(x.Match("a/b")); !slices.Equal(got, []int{7}) {
			t.Fatal(got)
		}
		x = dropped(t, x, p)
		check(t, "one filter less", x, pairs[i+1:]...)
	}
	if got := x.Match("a/b"); got.Len() != 0 {
		t.Fatal(subsOf(got))
	}
}

// texts tells all texts of up to so many of these bytes, the empty one among them.
func texts(most int, bytes string) []string {
	all := []string{""}
	for i := 0; i < len(all); i++ {
		if len(all[i]) < most {
			for _, b := range []byte(bytes) {
				all = append(all, all[i]+string([]byte{b}))
			}
		}
	}
	return all
}

// P13.2: all short filters against all short topics, each filter on its own, and all of them in one trie.
func TestAllShortTexts(t *testing.T) {
	all := texts(5, "a$/+#")
	var full Trie
	var pairs []pair
	for i, text := range all {
		next, err := full.Add(text, i)
		if (err == api.OK) != topic.Filter(text) || err != api.OK && (err != api.ErrFilter || !same(full, next)) {
			t.Fatalf("Add(%q): %d", text, err)
		}
		if full = next; err == api.OK {
			pairs = append(pairs, pair{text, i})
		}
	}
	if full.Len() != len(pairs) || full.Size() != len(places(filtersOf(pairs)...))-1 {
		t.Fatalf("Len %d, Size %d", full.Len(), full.Size())
	}
	for _, text := range all {
		got := subsOf(full.Match(text))
		if want := matching(pairs, text); !slices.Equal(got, want) {
			t.Fatalf("Match(%q) %v, want %v", text, got, want)
		}
	}
	for _, p := range pairs {
		if len(p.filter) > 4 {
			continue
		}
		one := of(t, p)
		for _, text := range all {
			if got := one.Match(text); got.Has(p.sub) != match.Match(p.filter, text) || got.Len() > 1 {
				t.Fatalf("%q alone: Match(%q) %v", p.filter, text, subsOf(got))
			}
			if one.Has(text, p.sub) != (text == p.filter) {
				t.Fatalf("%q alone: Has(%q)", p.filter, text)
			}
		}
	}
}

// P13.2: each way through all filters of 8 levels that match is gone.
func TestAllWays(t *testing.T) {
	const levels = 8
	name := strings.Repeat("a/", levels-1) + "a"
	var x Trie
	var subs []int
	for ways := range 1 << levels {
		filter := make([]string, levels)
		for i := range filter {
			filter[i] = string("a+"[ways>>i&1])
		}
		x = added(t, x, pair{strings.Join(filter, "/"), ways})
		subs = append(subs, ways)
		if got := subsOf(x.Match(name)); !slices.Equal(got, subs) {
			t.Fatalf("%d filters: %v", len(subs), got)
		}
	}
	if x.Size() != 1<<(levels+1)-2 || x.Len() != 1<<levels {
		t.Fatal(x.Size(), x.Len())
	}
	if got := subsOf(x.Match(name[:len(name)-1] + "b")); len(got) != len(subs)/2 {
		t.Fatal(got)
	}
	if got := subsOf(x.Match(name[:len(name)-2])); got != nil {
		t.Fatal(got)
	}
}

// P13.2: Size behind every add and drop.
func TestSize(t *testing.T) {
	var x Trie
	size := func(want int) {
		t.Helper()
		if x.Size() != want {
			t.Fatalf("Size %d, want %d", x.Size(), want)
		}
	}
	add := func(filter string, sub, want int) { t.Helper(); x = added(t, x, pair{filter, sub}); size(want) }
	drop := func(filter string, sub, want int) { t.Helper(); x = dropped(t, x, pair{filter, sub}); size(want) }
	size(0)
	add("a/b/c", 1, 3) // a and a/b lead to it
	add("a/b/c", 2, 3) // the same node
	add("a/b/d", 1, 4) // a/b is shared
	add("a/b", 1, 4)   // there already
	add("a", 3, 4)
	add("b/c", 1, 6) // c isn't a/b/c's
	add("/", 1, 8)   // the empty level, and one behind it
	add("//", 1, 9)
	add("+/b", 1, 11)
	add("#", 1, 12)
	add("a/#", 1, 13)
	add("a/+/c", 1, 15)
	drop("a/b/c", 1, 15) // 2 is left there
	drop("a/b/c", 2, 14) // its last subscriber
	drop("a/b", 1, 14)   // leads to a/b/d
	drop("a/b/d", 1, 12) // the last one through a/b
	drop("a", 3, 12)     // leads to a/# and a/+/c
	drop("a/+/c", 1, 10)
	drop("a/#", 1, 8) // the last one through a
	drop("/", 1, 8)   // leads to //
	drop("//", 1, 5)  // all the empty ones
	drop("+/b", 1, 3)
	drop("#", 1, 2)
	drop("b/c", 1, 0)
	add(strings.Repeat("/", 32), 1, 33)
	add(strings.Repeat("/", 31), 1, 33)
	add(strings.Repeat("a", 32), 1, 34)
	drop(strings.Repeat("/", 31), 1, 34)
	drop(strings.Repeat("/", 32), 1, 1)
	drop(strings.Repeat("a", 32), 1, 0)
	check(t, "empty again", x)
}

// P13.2: a refused add leaves no nodes behind, nor does one that is dropped again.
func TestSizeOfRefused(t *testing.T) {
	x := of(t, pair{"a/b", 1})
	for _, wrong := range []string{"a/c/#/d", "x/y/z+", "a/b/c\x00", "c/" + strings.Repeat("d", 32)} {
		next, err := x.Add(wrong, 1)
		if err != api.ErrFilter || next.Size() != 2 || next.Copied(x) != 0 {
			t.Errorf("%q: %d, Size %d", wrong, err, next.Size())
		}
	}
	for _, filter := range []string{"x/y/z", "a/b/c", "a/c", "a", "#", "/"} {
		next := dropped(t, added(t, x, pair{filter, 1}), pair{filter, 1})
		check(t, filter+", dropped again", next, pair{"a/b", 1})
	}
}

// P13.3: a trie that came by one add has its filter's levels, and its root, anew; the others are those that were.
func TestCopiedByAdd(t *testing.T) {
	var x Trie
	for i, filter := range []string{"a/b/c", "a/b", "a/b/d", "a", "b", "/", "//", "+/+/#", "#", "$s/#", "a/b/c/d/e", strings.Repeat("/", 32), strings.Repeat("+/", 15) + "#"} {
		for sub := range 3 {
			next := added(t, x, pair{filter, sub})
			if got := next.Copied(x); got != topic.Depth(filter)+1 {
				t.Errorf("%d: add of %q: Copied %d, want %d", i, filter, got, topic.Depth(filter)+1)
			}
			x = next
		}
	}
}

// P13.3: a trie that came by one drop has anew what is left of its filter's levels, and its root; of a last one nothing is left.
func TestCopiedByDrop(t *testing.T) {
	x := of(t, pair{"a/b/c", 1}, pair{"a/b/c", 2}, pair{"a/b/d", 1}, pair{"a", 1}, pair{"x/y/z", 1}, pair{"/", 1})
	for _, c := range []struct {
		pair
		copied, back int
	}{
		{pair{"a/b/c", 1}, 4, 4}, // all its nodes stay
		{pair{"a/b/c", 2}, 3, 3}, // a/b/c goes
		{pair{"x/y/z", 1}, 1, 1}, // x goes, and all below it
		{pair{"a", 1}, 2, 2},     // a leads to others
		{pair{"/", 1}, 1, 1},
		{pair{"a/b/d", 1}, 0, 4},
	} {
		next := dropped(t, x, c.pair)
		if got := next.Copied(x); got != c.copied || got > topic.Depth(c.filter)+1 {
			t.Errorf("drop of %v: Copied %d, want %d", c.pair, got, c.copied)
		}
		x = next
	}
	check(t, "empty again", x)
}

// P13.3: what a trie is not made of by one call, but by several, has each node anew that one of them made.
func TestCopiedBySeveral(t *testing.T) {
	x := of(t, pair{"a/b/c", 1}, pair{"a/d", 1}, pair{"e/f", 1}, pair{"g", 1})
	for _, c := range []struct {
		what  string
		pairs []pair
		want  int
	}{
		{"one", []pair{{"a/b/c", 2}}, 4},
		{"the same way twice", []pair{{"a/b/c", 2}, {"a/b/c", 3}}, 4},
		{"one beside it", []pair{{"a/b/c", 2}, {"a/d", 2}}, 5},
		{"two ways", []pair{{"a/b/c", 2}, {"e/f", 2}}, 6},
		{"new nodes", []pair{{"a/b/x", 2}, {"g/y/z", 2}}, 7},
		{"all", []pair{{"a/b/c", 2}, {"a/d", 2}, {"e/f", 2}, {"g", 2}}, 8},
	} {
		y := x
		for _, p := range c.pairs {
			y = added(t, y, p)
		}
		if got := y.Copied(x); got != c.want {
			t.Errorf("%s: Copied %d, want %d", c.what, got, c.want)
		}
	}
}

// P13.3: of what an error was answered beside, all is the same; so it is of a trie and itself.
func TestCopiedOfTheSame(t *testing.T) {
	pairs := []pair{{"a/b", 1}, {"#", 2}, {"/", 1}}
	for n := range len(pairs) + 1 {
		x := of(t, pairs[:n]...)
		// checkErrors asks Copied of each trie that was told beside an error, both ways.
		checkErrors(t, "the same", x, pairs[:n]...)
		y := x
		if x.Copied(y) != 0 || y.Copied(x) != 0 || x.Copied(x) != 0 {
			t.Error(n, x.Copied(y), y.Copied(x), x.Copied(x))
		}
	}
}

// P13.3: of two tries that have nothing in common each node, and the root, is told, whichever is asked.
func TestCopiedOfOthers(t *testing.T) {
	x := of(t, pair{"a/b", 1}, pair{"c", 1})
	y := of(t, pair{"d/e/f", 1}, pair{"g/h", 2}, pair{"/", 1})
	if x.Copied(y) != 4 || y.Copied(x) != 8 {
		t.Error(x.Copied(y), y.Copied(x))
	}
	// Their places are the same, but no node.
	z := of(t, pair{"c", 2}, pair{"a/b", 3}, pair{"a", 3})
	if x.Copied(z) != 4 || z.Copied(x) != 4 {
		t.Error(x.Copied(z), z.Copied(x))
	}
	// What neither of the two made anew, e and e/f, they have in common.
	both := added(t, x, pair{"e/f", 1})
	v, w := added(t, both, pair{"a/b", 2}), added(t, both, pair{"c/d", 2})
	if v.Copied(w) != 4 || w.Copied(v) != 5 {
		t.Error(v.Copied(w), w.Copied(v))
	}
}

// P13.3: what is alike but was made on its own was not taken over.
func TestCopiedOfAlike(t *testing.T) {
	pairs := []pair{{"a/b", 1}, {"c", 1}}
	x, y := of(t, pairs...), of(t, pairs...)
	if x.Copied(y) != 4 || y.Copied(x) != 4 {
		t.Error(x.Copied(y), y.Copied(x))
	}
	again := added(t, dropped(t, x, pair{"a/b", 1}), pair{"a/b", 1})
	if again.Copied(x) != 3 || x.Copied(again) != 3 {
		t.Error(again.Copied(x), x.Copied(again))
	}
}

// P13.3: an empty trie has no root, whether it is a zero one or became empty.
func TestCopiedOfEmpty(t *testing.T) {
	x := of(t, pair{"a/b", 1}, pair{"c", 1})
	empty := dropped(t, dropped(t, x, pair{"c", 1}), pair{"a/b", 1})
	for what, none := range map[string]Trie{"zero": {}, "became empty": empty} {
		if none.Copied(x) != 0 || none.Copied(Trie{}) != 0 || none.Copied(empty) != 0 {
			t.Errorf("%s: Copied %d, %d, %d", what, none.Copied(x), none.Copied(Trie{}), none.Copied(empty))
		}
		if x.Copied(none) != 4 {
			t.Errorf("%s: Copied by it %d", what, x.Copied(none))
		}
		if next := added(t, none, pair{"a", 1}); next.Copied(none) != 2 || none.Copied(next) != 0 || next.Copied(x) != 2 {
			t.Errorf("%s: one added: %d, %d, %d", what, next.Copied(none), none.Copied(next), next.Copied(x))
		}
		checkErrors(t, what, none)
	}
}

// words is what the chapter says of a trie, as plainly as it can be done: its pairs, and which node stands at each place, by when it was made.
type words struct {
	trie  Trie
	pairs []pair
	made  map[string]int
}

// makings is how many nodes were made of all words.
var makings int

// changed tells the words with these pairs: the nodes at the filter's places are new ones, if they are there.
func (w *words) changed(filter string, pairs []pair) *words {
	next := &words{pairs: pairs, made: map[string]int{}}
	anew := places(filter)
	for _, place := range places(filtersOf(pairs)...) {
		next.made[place] = w.made[place]
		if slices.Contains(anew, place) {
			makings++
			next.made[place] = makings
		}
	}
	return next
}

// add tells the words behind it, and what is to be answered.
func (w *words) add(p pair) (*words, api.Errno) {
	if !topic.Filter(p.filter) {
		return w, api.ErrFilter
	}
	if slices.Contains(w.pairs, p) {
		return w, api.ErrTwice
	}
	return w.changed(p.filter, append(slices.Clone(w.pairs), p)), api.OK
}

func (w *words) drop(p pair) (*words, api.Errno) {
	if !topic.Filter(p.filter) {
		return w, api.ErrFilter
	}
	if !slices.Contains(w.pairs, p) {
		return w, api.ErrAbsent
	}
	return w.changed(p.filter, without(w.pairs, p)), api.OK
}

// do does it of the words and of their trie, and holds what was answered, and what was copied, against the words.
func (w *words) do(t *testing.T, drop bool, p pair) *words {
	t.Helper()
	call, says := w.trie.Add, w.add
	if drop {
		call, says = w.trie.Drop, w.drop
	}
	x, err := call(p.filter, p.sub)
	next, want := says(p)
	if err != want {
		t.Fatalf("%v: %v, drop %v: %d, want %d", w.pairs, p, drop, err, want)
	}
	if err != api.OK {
		if !same(x, w.trie) {
			t.Fatalf("%v: %v, drop %v: %d, and another trie", w.pairs, p, drop, err)
		}
		return w
	}
	next.trie = x
	next.holdsCopied(t, w)
	w.holdsCopied(t, next)
	if x.Copied(w.trie) > topic.Depth(p.filter)+1 {
		t.Fatalf("%v: %v, drop %v: Copied %d", w.pairs, p, drop, x.Copied(w.trie))
	}
	return next
}

// holdsCopied holds what was copied of u against the words.
func (w *words) holdsCopied(t *testing.T, u *words) {
	t.Helper()
	count := 0
	for place, made := range w.made {
		if u.made[place] != made {
			count++
		}
	}
	if got := w.trie.Copied(u.trie); got != count {
		t.Fatalf("Copied of %v by %v: %d, want %d", w.pairs, u.pairs, got, count)
	}
}

// P13.1 to P13.3: all rows of up to 5 adds and drops of a few pairs, held against the chapter's words: what is made, and all that it was made of.
func TestAllShortRows(t *testing.T) {
	const longest = 5
	few := []pair{{"a", 1}, {"a/b", 1}, {"a/b", 2}, {"/", 1}, {"#", 2}, {"a#", 1}}
	var rows func(row []*words)
	rows = func(row []*words) {
		last := row[len(row)-1]
		check(t, "made", last.trie, last.pairs...)
		for _, w := range row {
			last.holdsCopied(t, w)
			w.holdsCopied(t, last)
		}
		if len(row) > longest {
			return
		}
		for _, p := range few {
			for _, drop := range []bool{false, true} {
				// A call that is refused leaves the row's end as it is: what comes behind it comes without it, too.
				if next := last.do(t, drop, p); next != last {
					rows(append(row[:len(row):len(row)], next))
				}
			}
		}
	}
	rows([]*words{{}})
}

// P13.1 to P13.3: long rows of adds and drops, of tries that were made at any time, held against the chapter's words; all that was told stays to the end.
func TestLongRows(t *testing.T) {
	const long = 1200
	for seed := range 4 {
		next := uint64(seed + 1)
		pick := func(n int) int {
			next = next*6364136223846793005 + 1442695040888963407
			return int(next>>33) % n
		}
		levels := []string{"", "a", "b", "+", "$s", "#", "a#"}
		filter := func() string {
			var l []string
			for range 1 + pick(4) {
				// The last ones seldom, as they make it no filter.
				l = append(l, levels[pick(2+pick(len(levels)-1))])
			}
			return strings.Join(l, "/")
		}
		all, told := []*words{{}}, []seen{see(Trie{})}
		for range long {
			from := all[max(0, len(all)-1-pick(3))]
			if pick(8) == 0 {
				from = all[pick(len(all))]
			}
			var w *words
			if pick(5) < 2 && len(from.pairs) > 0 {
				w = from.do(t, true, from.pairs[pick(len(from.pairs))])
			} else {
				w = from.do(t, pick(9) == 0, pair{filter(), pick(5)})
			}
			if w != from {
				check(t, "made", w.trie, w.pairs...)
				w.holdsCopied(t, all[pick(len(all))])
				all, told = append(all, w), append(told, see(w.trie))
			}
		}
		for i, w := range all {
			check(t, "made before", w.trie, w.pairs...)
			told[i].stays(t, "told before")
		}
	}
}

// seen is what was told of a trie at some time, with the sets that it told as they were handed out.
type seen struct {
	trie      Trie
	size, len int
	sets      []set.Set[int]
	lists     [][]int
}

func see(x Trie) seen {
	s := seen{trie: x, size: x.Size(), len: x.Len()}
	for _, topic := range topics {
		subs := x.Match(topic)
		s.sets, s.lists = append(s.sets, subs), append(s.lists, subsOf(subs))
	}
	return s
}

// stays holds a trie, and what it told, against what it was.
func (s seen) stays(t *testing.T, what string) {
	t.Helper()
	if s.trie.Size() != s.size || s.trie.Len() != s.len {
		t.Fatalf("%s: Size %d, was %d; Len %d, was %d", what, s.trie.Size(), s.size, s.trie.Len(), s.len)
	}
	for i, topic := range topics {
		if got := subsOf(s.sets[i]); !slices.Equal(got, s.lists[i]) {
			t.Fatalf("%s: what Match(%q) told is %v, was %v", what, topic, got, s.lists[i])
		}
		if got := subsOf(s.trie.Match(topic)); !slices.Equal(got, s.lists[i]) {
			t.Fatalf("%s: Match(%q) is %v, was %v", what, topic, got, s.lists[i])
		}
	}
}

// P13.1 to P13.3: nothing of a trie, nor of what Match told of it, changes by what is made of it, once and again.
func TestStays(t *testing.T) {
	pairs := []pair{{"a/b", 4}, {"a/b", 2}, {"a/+", 6}, {"#", 8}, {"a/b/#", 2}}
	x := of(t, pairs...)
	all := []seen{see(Trie{}), see(x)}
	copied := x.Copied(Trie{})
	next := x
	for sub := range 10 {
		for _, filter := range []string{"a/b", "a", "#", "a/b/c", "+/+"} {
			for _, from := range []Trie{x, next} {
				made, _ := from.Add(filter, sub)
				less, _ := made.Drop(filter, (sub+3)%10)
				gone, _ := from.Drop(filter, sub)
				all = append(all, see(made), see(less), see(gone))
				next = made
			}
			for _, s := range all {
				s.stays(t, "made "+filter)
			}
			check(t, "what all came of", x, pairs...)
			if x.Copied(Trie{}) != copied || x.Copied(x) != 0 {
				t.Fatal("Copied of what all came of changed")
			}
		}
	}
}

// P13.1: two tries that are made of one know nothing of each other.
func TestBranches(t *testing.T) {
	var x Trie
	var pairs []pair
	for i := range 20 {
		p, q := pair{others[i%7], 2 * i}, pair{others[i%5], 2*i + 1}
		one, other := added(t, x, p), added(t, x, q)
		check(t, "one", one, append(slices.Clone(pairs), p)...)
		check(t, "other", other, append(slices.Clone(pairs), q)...)
		check(t, "both come from", x, pairs...)
		x, pairs = one, append(slices.Clone(pairs), p)
	}
}

// P13.2: a trie may be made anew while what Match told is gone through.
func TestMadeWithinRanges(t *testing.T) {
	x := of(t, pair{"a", 2}, pair{"+", 4}, pair{"#", 6})
	was, next := see(x), x
	var subs []int
	for sub := range x.Match("a").All() {
		subs = append(subs, sub)
		next = added(t, added(t, next, pair{"a", sub + 1}), pair{"#", sub - 1})
	}
	if !slices.Equal(subs, []int{2, 4, 6}) {
		t.Fatal(subs)
	}
	was.stays(t, "gone through")
	check(t, "made", next, pair{"a", 2}, pair{"+", 4}, pair{"#", 6}, pair{"a", 3}, pair{"#", 1}, pair{"a", 5}, pair{"#", 3}, pair{"a", 7}, pair{"#", 5})
}

// R4: lists that are gathered of what Match told, and the bytes of which a filter was made, are the asker's.
func TestWrittenOver(t *testing.T) {
	filter := []byte("a/b")
	x := of(t, pair{string(filter), 1}, pair{"a/+", 2})
	copy(filter, "x/y")
	subs := subsOf(x.Match("a/b"))
	clear(subs)
	_ = append(subs[:1], 9)
	check(t, "written over", x, pair{"a/b", 1}, pair{"a/+", 2})
}

// P13.1, P13.2: as many pairs as one likes, of one filter, and of as many.
func TestMany(t *testing.T) {
	const many = 1500
	var one, all Trie
	var want []int
	for i := range many {
		at := i * 7 % many
		one = added(t, one, pair{"a/+", at})
		all = added(t, all, pair{"a/" + strconv.Itoa(at) + "/#", at})
		want = append(want, i)
	}
	if one.Len() != many || one.Size() != 2 || all.Len() != many || all.Size() != 1+2*many {
		t.Fatal(one.Len(), one.Size(), all.Len(), all.Size())
	}
	if got := subsOf(one.Match("a/x")); !slices.Equal(got, want) {
		t.Fatal(got)
	}
	for i := range many {
		if got := subsOf(all.Match("a/" + strconv.Itoa(i))); !slices.Equal(got, []int{i}) {
			t.Fatal(i, got)
		}
	}
	for i := range many {
		one = dropped(t, one, pair{"a/+", i})
		all = dropped(t, all, pair{"a/" + strconv.Itoa(i) + "/#", i})
		if one.Len() != many-1-i || all.Len() != many-1-i {
			t.Fatal(one.Len(), all.Len())
		}
	}
	check(t, "all of one are dropped", one)
	check(t, "all are dropped", all)
}

// R6: the same calls have the same answers.
func TestSameAgain(t *testing.T) {
	play := func() string {
		var x, was Trie
		var told []string
		for i := range 300 {
			next, err := x.Add(others[i*7%len(others)], i*i%11)
			told = append(told, strconv.Itoa(int(err)), strconv.Itoa(next.Copied(x)), strconv.Itoa(next.Copied(was)))
			x, err = next.Drop(others[i*5%len(others)], i&7)
			told = append(told, strconv.Itoa(int(err)), strconv.Itoa(x.Len()), strconv.Itoa(x.Size()))
			for sub := range x.Match(topics[i%len(topics)]).All() {
				told = append(told, strconv.Itoa(sub))
			}
			if i%50 == 0 {
				was = x
			}
		}
		return strings.Join(told, " ")
	}
	if play() != play() {
		t.Fatal("another answer")
	}
}
