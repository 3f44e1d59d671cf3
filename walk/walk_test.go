package walk

import (
	"cmp"
	"iter"
	"maps"
	"math"
	"slices"
	"strconv"
	"strings"
	"testing"

	"bellman/match"
	"bellman/node"
)

// pair is a text with one of its subscribers.
type pair struct {
	text string
	sub  int
}

// String tells a pair so that all bytes of its text can be read.
func (p pair) String() string {
	return strconv.Quote(p.text) + " of " + strconv.Itoa(p.sub)
}

// asked are filters, and texts that are none, for which Under is asked of every tree.
var asked = []string{
	"a", "b", "a/b", "a/b/c", "+", "+/b", "a/+", "+/+", "a/+/c", "+/+/+", "#", "a/#", "a/b/#", "+/#", "a/+/#", "/#", "//#",
	"/", "//", "/+", "+/", "/a", "a/", "a//b", "a//+", "a//#", "$s", "$s/#", "$s/+", "+/x", "aa", "A", "\xff", "a!",
	"", "a#", "#/a", "+a", "a+", "a/#/b", "##", "\x00", "a/\x00", strings.Repeat("a", 33), strings.Repeat("/", 33),
}

// askedSubs are the subscribers for which Filters is asked of every tree.
var askedSubs = []int{0, 1, 2, 3, 4, -1, 9, math.MinInt, math.MaxInt, 1<<32 + 1}

// inOrder is what the chapter's words say of the order: by the levels, one by one, then by the subscribers.
func inOrder(p, q pair) int {
	return cmp.Or(slices.Compare(strings.Split(p.text, "/"), strings.Split(q.text, "/")), cmp.Compare(p.sub, q.sub))
}

// right tells these pairs in order, each once.
func right(pairs []pair) []pair {
	return slices.Compact(slices.SortedFunc(slices.Values(pairs), inOrder))
}

// only tells the pairs of which that is true.
func only(pairs []pair, wanted func(pair) bool) []pair {
	return slices.DeleteFunc(slices.Clone(pairs), func(p pair) bool { return !wanted(p) })
}

func textsOf(pairs []pair) []string {
	var texts []string
	for _, p := range pairs {
		texts = append(texts, p.text)
	}
	return texts
}

// each tells these pairs by a function, as they stand.
func each(pairs ...pair) iter.Seq2[string, int] {
	return func(yield func(string, int) bool) {
		for _, p := range pairs {
			if !yield(p.text, p.sub) {
				return
			}
		}
	}
}

func gather(pairs iter.Seq2[string, int]) []pair {
	var all []pair
	for text, sub := range pairs {
		all = append(all, pair{text, sub})
	}
	return all
}

// first tells as many pairs as are wanted, at least one, and ends the range at the last of them.
func first(pairs iter.Seq2[string, int], wanted int) []pair {
	var some []pair
	for text, sub := range pairs {
		some = append(some, pair{text, sub})
		if len(some) == wanted {
			break
		}
	}
	return some
}

// put tells the node below which a subscriber is put too, by the calls of layer 12 alone: these levels lead to it.
func put(n *node.Node, sub int, levels ...string) *node.Node {
	if len(levels) == 0 {
		return n.WithSub(sub)
	}
	return n.WithKid(levels[0], put(n.Kid(levels[0]), sub, levels[1:]...))
}

// tree tells a node that is made of these pairs by the calls of layer 12 alone.
func tree(pairs ...pair) *node.Node {
	var n *node.Node
	for _, p := range pairs {
		n = put(n, p.sub, strings.Split(p.text, "/")...)
	}
	return n
}

// alike tells whether two nodes, and all below them, have the same.
func alike(a, b *node.Node) bool {
	if !slices.Equal(slices.Collect(a.Subs().All()), slices.Collect(b.Subs().All())) {
		return false
	}
	kids, others := maps.Collect(a.Kids()), maps.Collect(b.Kids())
	return maps.EqualFunc(kids, others, alike)
}

// checkSeq ranges over pairs as often as it can be done otherwise: all of them, twice, and stopping at every place.
func checkSeq(t *testing.T, what string, got iter.Seq2[string, int], want []pair) {
	t.Helper()
	if got == nil {
		t.Fatalf("%s: a nil function", what)
	}
	for range 2 {
		if all := gather(got); !slices.Equal(all, want) {
			t.Fatalf("%s: %v, want %v", what, all, want)
		}
	}
	for i := range want {
		if some := first(got, i+1); !slices.Equal(some, want[:i+1]) {
			t.Fatalf("%s, stopped at %d: %v, want %v", what, i, some, want[:i+1])
		}
	}
}

// check asks a node all that may be asked, twice, as asking changes nothing: these are the pairs below it.
func check(t *testing.T, what string, n *node.Node, pairs ...pair) {
	t.Helper()
	all := right(pairs)
	for range 2 {
		checkSeq(t, what+": Pairs", Pairs(n), all)
		for _, filter := range asked {
			want := only(all, func(p pair) bool { return match.Covers(filter, p.text) })
			checkSeq(t, what+": Under "+filter, Under(n, filter), want)
		}
		for _, sub := range askedSubs {
			want := textsOf(only(all, func(p pair) bool { return p.sub == sub }))
			if got := Filters(n, sub); !slices.Equal(got, want) {
				t.Fatalf("%s: Filters of %d %q, want %q", what, sub, got, want)
			}
		}
	}
}

// checkOf holds what Of tells of these against a node that is made by layer 12's calls, and asks it all.
func checkOf(t *testing.T, what string, pairs ...pair) {
	t.Helper()
	full := only(pairs, func(p pair) bool { return p.text != "" })
	for range 2 {
		n := Of(each(pairs...))
		if (n == nil) != (len(full) == 0) || !alike(n, tree(full...)) || n.Size() != tree(full...).Size() {
			t.Fatalf("%s: of %v Of tells %v, and %d nodes", what, pairs, gather(Pairs(n)), n.Size())
		}
		check(t, what, n, full...)
		if again := Of(Pairs(n)); !alike(again, n) || (again == nil) != (n == nil) {
			t.Fatalf("%s: Of of its Pairs isn't alike", what)
		}
	}
}

// orders tells all orders of these.
func orders[T any](l []T) iter.Seq[[]T] {
	return func(yield func([]T) bool) {
		if len(l) == 0 {
			yield(nil)
			return
		}
		for i := range l {
			for order := range orders(slices.Delete(slices.Clone(l), i, i+1)) {
				if !yield(append(order, l[i])) {
					return
				}
			}
		}
	}
}

// P14.1: the chapter's example.
func TestExample(t *testing.T) {
	pairs := []pair{{"a", 2}, {"a/b", 1}, {"a", 1}}
	if got := gather(Pairs(Of(each(pairs...)))); !slices.Equal(got, []pair{{"a", 1}, {"a", 2}, {"a/b", 1}}) {
		t.Fatal(got)
	}
	for order := range orders(pairs) {
		checkOf(t, "the example", order...)
	}
}

// P14.1: of nil pairs, of none, and of pairs of only empty texts, Of tells nil.
func TestOfNone(t *testing.T) {
	none := map[string]iter.Seq2[string, int]{
		"nil":             nil,
		"none":            each(),
		"none that ends":  func(func(string, int) bool) {},
		"an empty text":   each(pair{"", 1}),
		"empty texts":     each(pair{"", 1}, pair{"", 1}, pair{"", -1}, pair{"", 0}, pair{"", math.MaxInt}),
		"Pairs of nil":    Pairs(nil),
		"Pairs of a bare": Pairs(new(node.Node)),
		"Under of nil":    Under(nil, "#"),
		"Under of none":   Under(tree(pair{"a", 1}), "b"),
	}
	for what, pairs := range none {
		for range 2 {
			if n := Of(pairs); n != nil {
				t.Errorf("Of of %s isn't nil", what)
			}
		}
		check(t, what, Of(pairs))
	}
}

// P14.1: pairs of the empty text are none, wherever they come.
func TestOfEmptyTexts(t *testing.T) {
	for order := range orders([]pair{{"", 1}, {"a", 1}, {"", 2}, {"/", 2}, {"a", 3}}) {
		checkOf(t, "empty texts too", order...)
	}
	if n := Of(each(pair{"", 7}, pair{"a", 1})); n.Subs().Len() != 0 || n.Kid("") != nil || n.Size() != 2 {
		t.Fatal("an empty text is there")
	}
}

// P14.1: pairs in any order, and more than once, lead to the same.
func TestOfAnyOrder(t *testing.T) {
	pairs := []pair{{"a", 1}, {"a/b", 2}, {"a", 2}, {"/", 1}, {"a/b/c", -3}}
	for order := range orders(pairs) {
		checkOf(t, "any order", order...)
		checkOf(t, "twice", append(slices.Clone(order), order...)...)
		backward := slices.Clone(order)
		slices.Reverse(backward)
		checkOf(t, "there and back", append(slices.Clone(order), backward...)...)
	}
	many := slices.Repeat([]pair{{"a/b", 1}}, 50)
	checkOf(t, "one pair, often", many...)
	if n := Of(each(many...)); n.Size() != 3 || n.Kid("a").Kid("b").Subs().Len() != 1 {
		t.Fatal("one pair, often", n.Size())
	}
}

// P14.1: one text of several subscribers, negative ones too, and one subscriber of several texts.
func TestSeveral(t *testing.T) {
	subs := []int{math.MaxInt, 3, -1, 0, math.MinInt, 10, 9, -10, 2, 1<<32 + 1, 1}
	var one, many []pair
	for i, sub := range subs {
		one = append(one, pair{"a/b", sub})
		many = append(many, pair{strings.Repeat("x/", i) + "y", 4})
	}
	checkOf(t, "one text", one...)
	checkOf(t, "one subscriber", many...)
	checkOf(t, "both", append(one, many...)...)
	checkOf(t, "at several texts", append(append(one, pair{"a", 9}, pair{"a", -9}), pair{"a/b/c", 0}, pair{"a/b/c", -1})...)
	slices.Sort(subs)
	var got []int
	for text, sub := range Pairs(Of(each(one...))) {
		if text != "a/b" {
			t.Fatal(text)
		}
		got = append(got, sub)
	}
	if !slices.Equal(got, subs) {
		t.Fatal(got)
	}
}

// P14.1: a text's levels may be empty, / alone has two of them.
func TestEmptyLevels(t *testing.T) {
	texts := []string{"/", "//", "///", "/a", "a/", "a//", "/a/", "//a", "a//b", "a/b", "a", "/a/b", strings.Repeat("/", 40)}
	var all []pair
	for i, text := range texts {
		checkOf(t, text, pair{text, i})
		for j, other := range texts {
			checkOf(t, text+" and "+other, pair{text, 1}, pair{other, j % 3})
		}
		all = append(all, pair{text, 1}, pair{text, -i})
	}
	checkOf(t, "all of them", all...)
	n := Of(each(pair{"/", 5}))
	if n.Size() != 3 || n.Kid("").Subs().Len() != 0 || !n.Kid("").Kid("").Subs().Has(5) {
		t.Fatal("/ alone", n.Size())
	}
}

// P14.1: a node to which some text leads may lead on to others.
func TestTextsThatBeginOthers(t *testing.T) {
	pairs := []pair{{"a", 1}, {"a/a", 1}, {"a/a/a", 1}, {"aa", 1}, {"aa/a", 1}}
	for order := range orders(pairs) {
		checkOf(t, "one begins another", order...)
	}
	n := Of(each(pair{"a/b/c", 1}, pair{"a", 2}))
	if n.Size() != 4 || n.Kid("a").Subs().Has(1) || !n.Kid("a").Subs().Has(2) || n.Kid("a").Kid("b").Subs().Len() != 0 {
		t.Fatal(n.Size())
	}
}

// P14.1: a text that is no filter has its levels as others have; P14.2: no filter covers it.
func TestNoFilters(t *testing.T) {
	texts := []string{"a+", "+a", "a#", "#/", "#/a", "a/#/b", "##", "++", "\x00", "a/\x00", "\x00/b", strings.Repeat("a", 33), strings.Repeat("ab/", 11), strings.Repeat("x", 1000)}
	var all []pair
	for i, text := range texts {
		checkOf(t, text, pair{text, 1})
		all = append(all, pair{text, i % 4}, pair{text, 1})
		if got := gather(Under(Of(each(pair{text, 1})), "#")); got != nil {
			t.Errorf("# covers %v", got)
		}
	}
	checkOf(t, "all of them", all...)
	checkOf(t, "beside filters", append(all, pair{"a", 1}, pair{"a/+", 1}, pair{"#", 1}, pair{"a/b", 2})...)
}

// P14.1: of no node, and of a node that has none below it, there are no pairs; what stands at the node itself isn't told.
func TestNoneBelow(t *testing.T) {
	var none *node.Node
	for what, n := range map[string]*node.Node{
		"no node":              nil,
		"a zero one":           new(node.Node),
		"bare":                 none.WithSub(1).WithoutSub(1),
		"only itself":          none.WithSub(1),
		"itself, several":      none.WithSub(1).WithSub(-1).WithSub(0).WithSub(math.MaxInt),
		"its kid is gone":      tree(pair{"a", 1}).WithKid("a", nil).WithSub(2),
		"it had only a bare":   none.WithSub(2).WithKid("a", none.WithKid("b", none)),
		"a kid's kid, from it": tree(pair{"a/b", 1}).Kid("a").Kid("b"),
		"a kid that isn't":     tree(pair{"a/b", 1}).Kid("b"),
	} {
		check(t, what, n)
	}
	n := tree(pair{"a", 1}, pair{"a/b", 2}).WithSub(3).WithSub(-1)
	check(t, "itself and others", n, pair{"a", 1}, pair{"a/b", 2})
	check(t, "from its kid", n.Kid("a"), pair{"b", 2})
	check(t, "from its kid's kid", n.Kid("a").Kid("b"))
}

// P14.1: the order is by the levels, byte by byte, not by the texts: / is no byte of a level.
func TestOrder(t *testing.T) {
	texts := []string{
		"/", "//", "//a", "/a", "\x00", "\x01/a", "!", "#", "$s/a", "+", "+/#", "A", "a", "a/", "a//", "a//b", "a/!", "a/a", "a/a/z", "a/a!",
		"a/aa", "a/b", "a/b/\xff", "a\x00", "a!", "a!/a", "a+", "a-", "a.", "a./x", "a0", "aa", "aa/a", "ab", "a\x7f", "a\x80", "a\xff", "b", "b/a", "é", "\xff", "\xff/a",
	}
	var want []pair
	for i, text := range texts {
		want = append(want, pair{text, -1}, pair{text, i})
	}
	backward := slices.Clone(want)
	slices.Reverse(backward)
	for what, pairs := range map[string][]pair{"as they stand": want, "from behind": backward} {
		for how, n := range map[string]*node.Node{"Of": Of(each(pairs...)), "by layer 12": tree(pairs...)} {
			if got := gather(Pairs(n)); !slices.Equal(got, slices.Compact(slices.Clone(want))) {
				t.Errorf("%s, %s: %v", what, how, got)
			}
			check(t, what+", "+how, n, pairs...)
		}
	}
	checkOf(t, "from behind", backward...)
}

// P14.1: a kid's level that layer 12 was handed may have a / in it, or be empty: the pairs are told by their texts, in order and once.
func TestLevelsOfAnyText(t *testing.T) {
	rows := [][]string{{"a/b"}, {"a", "b"}, {"a"}, {"a!"}, {"a/b/c"}, {"a/b", "c"}, {"a", "b/c"}, {"a", "b", "c"}, {"/"}, {"", ""}, {""}, {"a/"}, {"/", "/"}, {"//", ""}, {"a/b!"}, {"a", "b/c/d"}}
	var all *node.Node
	var pairs []pair
	for i, row := range rows {
		text := strings.Join(row, "/")
		check(t, text, put(nil, 1, row...), pair{text, 1})
		for j, other := range rows {
			n := put(put(nil, 1, row...).WithSub(7), 2+j%2, other...)
			check(t, "two rows", n, pair{text, 1}, pair{strings.Join(other, "/"), 2 + j%2})
			check(t, "twice", put(put(nil, 1, row...), 1, other...), pair{text, 1}, pair{strings.Join(other, "/"), 1})
		}
		all = put(put(all, 1, row...), i, row...)
		pairs = append(pairs, pair{text, 1}, pair{text, i})
		check(t, "so far", all, pairs...)
	}
	if again := Of(Pairs(all)); again.Kid("a/b") != nil || again.Kid("") == nil || again.Kid("").Subs().Len() != 0 {
		t.Error("Of took a level with / in it, or an empty text")
	}
}

// P14.1: of three kids that have to stand at one level each keeps what it has, whatever their order is.
func TestLevelsThatMeet(t *testing.T) {
	rows := [][]string{{"a/b/c"}, {"a/b", "c"}, {"a", "b/c"}, {"a", "b", "c"}, {"a/b"}, {"a", "b"}, {"a/x"}, {"a/b/c", "d"}, {"a", "b/c/d"}}
	for i, one := range rows {
		for j, two := range rows {
			for k, three := range rows {
				n := put(put(put(nil, i, one...), j, two...), k, three...)
				want := right([]pair{{strings.Join(one, "/"), i}, {strings.Join(two, "/"), j}, {strings.Join(three, "/"), k}})
				checkSeq(t, "three rows", Pairs(n), want)
			}
		}
	}
}

// P14.2: what each kind of filter covers, and what it doesn't.
func TestUnder(t *testing.T) {
	texts := []string{
		"#", "$s", "$s/#", "$s/a", "$s/a/b", "+", "+/#", "+/+", "+/b", "/", "/#", "//", "/a", "/+", "a", "a/", "a/#", "a//b", "a/+", "a/+/c", "a/b", "a/b/#", "a/b/c", "a/c", "aa", "b", "b/a", "b/b",
		"", "a+", "a#", "#/a", "a/#/b", "\x00", strings.Repeat("a", 33),
	}
	cases := map[string][]string{
		"a":         {"a"},
		"aa":        {"aa"},
		"c":         {},
		"a/b":       {"a/b"},
		"a/b/c":     {"a/b/c"},
		"a/b/c/d":   {},
		"+":         {"+", "a", "aa", "b"},
		"a/+":       {"a/", "a/+", "a/b", "a/c"},
		"+/b":       {"+/b", "a/b", "b/b"},
		"+/+":       {"/", "/+", "/a", "+/+", "+/b", "a/", "a/+", "a/b", "a/c", "b/a", "b/b"},
		"a/+/c":     {"a/+/c", "a/b/c"},
		"#":         {"/", "//", "/#", "/+", "/a", "#", "+", "+/#", "+/+", "+/b", "a", "a/", "a//b", "a/#", "a/+", "a/+/c", "a/b", "a/b/#", "a/b/c", "a/c", "aa", "b", "b/a", "b/b"},
		"a/#":       {"a", "a/", "a//b", "a/#", "a/+", "a/+/c", "a/b", "a/b/#", "a/b/c", "a/c"},
		"a/b/#":     {"a/b", "a/b/#", "a/b/c"},
		"a/b/c/#":   {"a/b/c"},
		"+/#":       {"/", "//", "/#", "/+", "/a", "+", "+/#", "+/+", "+/b", "a", "a/", "a//b", "a/#", "a/+", "a/+/c", "a/b", "a/b/#", "a/b/c", "a/c", "aa", "b", "b/a", "b/b"},
		"a/+/#":     {"a/", "a//b", "a/+", "a/+/c", "a/b", "a/b/#", "a/b/c", "a/c"},
		"/":         {"/"},
		"//":        {"//"},
		"/+":        {"/", "/+", "/a"},
		"/#":        {"/", "//", "/#", "/+", "/a"},
		"a/":        {"a/"},
		"a//b":      {"a//b"},
		"a//#":      {"a/", "a//b"},
		"$s":        {"$s"},
		"$s/#":      {"$s", "$s/#", "$s/a", "$s/a/b"},
		"$s/+":      {"$s/a"},
		"$t/#":      {},
		"":          {},
		"a+":        {},
		"a#":        {},
		"#/a":       {},
		"a/#/b":     {},
		"\x00":      {},
		"a/#\x00":   {},
		"##":        {},
		"A":         {},
		"a/b/c/d/#": {},
	}
	cases[strings.Repeat("a", 33)], cases[strings.Repeat("+/", 16)+"#"] = nil, nil
	var pairs []pair
	for i, text := range texts {
		pairs = append(pairs, pair{text, 3 - i%5}, pair{text, 9})
	}
	n := tree(pairs...)
	for filter, covered := range cases {
		var want []pair
		for _, text := range covered {
			i := slices.Index(texts, text)
			want = append(want, pair{text, 3 - i%5}, pair{text, 9})
		}
		checkSeq(t, filter, Under(n, filter), want)
		if got := gather(Under(nil, filter)); got != nil {
			t.Errorf("%s, of no node: %v", filter, got)
		}
		if got := gather(Under(n.Kid("c"), filter)); got != nil {
			t.Errorf("%s, of a kid that isn't there: %v", filter, got)
		}
	}
	check(t, "all of them", n, pairs...)
}

// P14.2: the texts of a subscriber with several, with one and with none, in order.
func TestFilters(t *testing.T) {
	n := Of(each(pair{"a/b", 1}, pair{"a!", 1}, pair{"b", 1}, pair{"a", 1}, pair{"a", 2}, pair{"a/c", -1}, pair{"/", 1}, pair{"a+", 1}, pair{"a/b", 0}, pair{"#", 0})).WithSub(1).WithSub(8)
	for sub, want := range map[int][]string{
		1: {"/", "a", "a/b", "a!", "a+", "b"}, 2: {"a"}, -1: {"a/c"}, 0: {"#", "a/b"}, 3: nil, 8: nil, -2: nil, math.MinInt: nil, math.MaxInt: nil, 1<<32 + 1: nil,
	} {
		for range 2 {
			if got := Filters(n, sub); !slices.Equal(got, want) {
				t.Errorf("Filters of %d: %q, want %q", sub, got, want)
			}
			if got := Filters(nil, sub); len(got) != 0 {
				t.Errorf("Filters of %d, of no node: %q", sub, got)
			}
		}
	}
}

// P14.1, P14.2: a range that ended early is begun anew at the first pair, and ranges stand in each other, each with places of its own.
func TestRanges(t *testing.T) {
	pairs := right([]pair{{"a", 1}, {"a", 2}, {"a/b", 1}, {"a/b/c", 3}, {"b", 1}, {"b/", 2}})
	n := tree(pairs...)
	for what, seq := range map[string]iter.Seq2[string, int]{"Pairs": Pairs(n), "Under": Under(n, "#")} {
		var outer, inner []pair
		for text, sub := range seq {
			outer = append(outer, pair{text, sub})
			inner = append(inner, first(seq, len(outer))...)
			if all := gather(seq); !slices.Equal(all, pairs) {
				t.Fatalf("%s, within a range: %v", what, all)
			}
		}
		if !slices.Equal(outer, pairs) || len(inner) != 1+2+3+4+5+6 {
			t.Fatalf("%s: %v, %v", what, outer, inner)
		}
		for range seq {
			break
		}
		if all := gather(seq); !slices.Equal(all, pairs) {
			t.Fatalf("%s, anew: %v", what, all)
		}
	}
}

// P14.1: nobody is asked for more once a range ended, at no place of any tree.
func TestEnds(t *testing.T) {
	n := tree(pair{"a", 1}, pair{"a", 2}, pair{"a/b", 1}, pair{"a/b/c", 3}, pair{"b", 1}).WithSub(4)
	for what, seq := range map[string]iter.Seq2[string, int]{"Pairs": Pairs(n), "Under": Under(n, "#")} {
		for stop := 1; stop <= 5; stop++ {
			calls := 0
			seq(func(string, int) bool {
				calls++
				return calls != stop
			})
			if calls != stop {
				t.Errorf("%s: %d calls, and the range ended at %d", what, calls, stop)
			}
		}
	}
}

// P14.1: Of takes each pair once, from the first to the last one, and ranges over what it is handed once.
func TestTaken(t *testing.T) {
	begun, told, ended := 0, 0, false
	n := Of(func(yield func(string, int) bool) {
		begun++
		for _, text := range []string{"b", "", "a/b", "b"} {
			told++
			if !yield(text, told) {
				t.Fatal("no more are taken")
			}
		}
		ended = true
	})
	if begun != 1 || told != 4 || !ended {
		t.Fatal(begun, told, ended)
	}
	check(t, "taken", n, pair{"b", 1}, pair{"a/b", 3}, pair{"b", 4})
}

// P14.1, P14.2: a node stays as it was, whatever was told of it, or made of that.
func TestStays(t *testing.T) {
	pairs := []pair{{"a", 2}, {"a/b", 1}, {"/", 1}, {"a/#", -1}}
	n := tree(pairs...).WithSub(6).WithKid("x/y", tree(pair{"z", 1}).WithSub(4))
	all := append(slices.Clone(pairs), pair{"x/y", 4}, pair{"x/y/z", 1})
	kids, size, made := maps.Collect(n.Kids()), n.Size(), n
	for text, sub := range Pairs(n) {
		made = put(made, sub+1, strings.Split(text, "/")...)
		for range Under(n, text) {
			made = put(made, sub-1, text)
		}
		texts := Filters(n, sub)
		clear(texts)
		_ = append(texts[:0], "written over")
		Of(Pairs(n))
		check(t, "meanwhile", n, all...)
	}
	if !maps.Equal(maps.Collect(n.Kids()), kids) || n.Size() != size || !slices.Equal(slices.Collect(n.Subs().All()), []int{6}) || !slices.Equal(slices.Collect(n.Kid("x/y").Subs().All()), []int{4}) {
		t.Fatal("the node changed")
	}
	if len(gather(Pairs(made))) <= len(all) {
		t.Fatal("nothing was made")
	}
}

// R4: the bytes of a text, and what Filters told, are the asker's.
func TestWrittenOver(t *testing.T) {
	bytes := []byte("a/b")
	n := Of(each(pair{string(bytes), 1}, pair{"a", 1}))
	copy(bytes, "x/y")
	texts := Filters(n, 1)
	other := Filters(n, 1)
	texts[0] = "z"
	if other[0] != "a" {
		t.Fatal(other)
	}
	check(t, "written over", n, pair{"a", 1}, pair{"a/b", 1})
}

// P14.1: a text told first stays as it was, though levels behind it are told from the same list.
func TestTextsStay(t *testing.T) {
	var texts, copies []string
	n := Of(each(pair{"a/b/c", 1}, pair{"a/b", 1}, pair{"a/c", 1}, pair{"b/c/d", 1}, pair{"b", 1}))
	for text := range Pairs(n) {
		texts, copies = append(texts, text), append(copies, strings.Clone(text))
	}
	if !slices.Equal(texts, copies) || !slices.Equal(texts, []string{"a/b", "a/b/c", "a/c", "b", "b/c/d"}) {
		t.Fatal(texts)
	}
}

// P14.1, P14.2: the same kid may stand at more places than can be gone through: the first ones are told all the same.
func TestMorePlaces(t *testing.T) {
	var n *node.Node
	n = n.WithSub(1)
	for range 60 {
		var next *node.Node
		n = next.WithKid("a", n).WithKid("b", n)
	}
	long := strings.Repeat("a/", 59)
	if got := first(Pairs(n), 3); !slices.Equal(got, []pair{{long + "a", 1}, {long + "b", 1}, {long[:116] + "b/a", 1}}) {
		t.Fatal(got)
	}
	var top *node.Node
	if got := first(Pairs(top.WithKid("c/d", n).WithKid("b/a", top.WithSub(2)).WithKid("b/b", n)), 2); !slices.Equal(got, []pair{{"b/a", 2}, {"b/b/" + long + "a", 1}}) {
		t.Fatal(got)
	}
	if got := first(Under(top.WithKid("b", n).WithKid("a", top.WithSub(2)), "#"), 1); !slices.Equal(got, []pair{{"a", 2}}) {
		t.Fatal(got)
	}
}

// P14.1: kids that have to stand at one level, time and again, are gone through in the time of what they have.
func TestMeetingOften(t *testing.T) {
	var n, behind *node.Node
	n = n.WithSub(1)
	var want []string
	for depth := range 100 {
		var next *node.Node
		n, behind = next.WithSub(1).WithKid("a", n).WithKid("a/a", behind), n
		want = append(want, strings.Repeat("a/", depth)+"a")
	}
	if got := Filters(n, 1); !slices.Equal(got, want) {
		t.Fatal(len(got), len(want))
	}
}

// P1: texts of any length, and trees of any depth.
func TestDeep(t *testing.T) {
	const long = 1 << 20
	texts := []string{strings.Repeat("/", long), strings.Repeat("a", long), strings.Repeat("a/", long/2), "/" + strings.Repeat("b/", long/2)}
	for _, text := range texts {
		n := Of(each(pair{text, 1}, pair{text, -1}, pair{"a", 2}))
		if got := gather(Pairs(n)); !slices.Equal(got, right([]pair{{text, 1}, {text, -1}, {"a", 2}})) {
			t.Error("another text", len(got))
		}
		if got := Filters(n, -1); !slices.Equal(got, []string{text}) {
			t.Error("another text", len(got))
		}
		if got := gather(Under(n, "#")); !slices.Equal(got, []pair{{"a", 2}}) {
			t.Error("what is no filter is covered", len(got))
		}
		if got := gather(Under(n, text)); got != nil {
			t.Error("what is no filter covers", len(got))
		}
	}
	if got := gather(Pairs(put(nil, 1, strings.Repeat("/", long)))); !slices.Equal(got, []pair{{strings.Repeat("/", long), 1}}) {
		t.Error("another text", len(got))
	}
}

// P14.1, P14.2: as many pairs as one likes, at one node and at as many.
func TestMany(t *testing.T) {
	const many = 3000
	var pairs []pair
	for i := range many {
		at := i * 7 % many
		pairs = append(pairs, pair{"a/" + strconv.Itoa(at), at % 10}, pair{"b", at - many/2})
	}
	n, want := Of(each(pairs...)), right(pairs)
	if got := gather(Pairs(n)); !slices.Equal(got, want) || n.Size() != 3+many {
		t.Fatal(len(got), n.Size())
	}
	if got := gather(Under(n, "a/#")); !slices.Equal(got, want[:many]) {
		t.Fatal(len(got))
	}
	if got := Filters(n, 3); !slices.Equal(got, append(textsOf(only(want[:many], func(p pair) bool { return p.sub == 3 })), "b")) {
		t.Fatal(len(got))
	}
}

// subsets tells the pairs whose bit is set in each number, all numbers from 0 on.
func subsets(pairs []pair) iter.Seq[[]pair] {
	return func(yield func([]pair) bool) {
		for bits := range 1 << len(pairs) {
			var some []pair
			for i, p := range pairs {
				if bits>>i&1 == 1 {
					some = append(some, p)
				}
			}
			if !yield(some) {
				return
			}
		}
	}
}

// P14.1, P14.2: all sets of a few pairs.
func TestAllSets(t *testing.T) {
	pairs := []pair{{"a!", 1}, {"a/b", 2}, {"a", 2}, {"", 1}, {"a", -1}, {"/", 1}, {"a/b", 1}}
	for some := range subsets(pairs) {
		checkOf(t, "a set", some...)
		check(t, "a set, by layer 12", tree(some...).WithSub(3), some...)
	}
}

// next is a row of numbers that looks like chance, but is the same each time.
func next(state *uint64, below int) int {
	*state = *state*6364136223846793005 + 1442695040888963407
	return int(*state >> 33 % uint64(below))
}

// P14.1, P14.2: long rows of pairs, whose texts have levels that are alike often.
func TestLongRows(t *testing.T) {
	levels := []string{"", "a", "b", "+", "#", "$s", "a!", "aa", "a+", "\x00", "\xff"}
	state := uint64(14)
	for round := range 60 {
		var pairs []pair
		for range next(&state, 40) {
			var row []string
			for range 1 + next(&state, 4) {
				row = append(row, levels[next(&state, len(levels))])
			}
			pairs = append(pairs, pair{strings.Join(row, "/"), next(&state, 6) - 2})
		}
		checkOf(t, "round "+strconv.Itoa(round), pairs...)
	}
}

// P14.1: long rows of subscribers that are put by levels of any text, some with / in them.
func TestLongRowsOfAnyLevel(t *testing.T) {
	levels := []string{"", "a", "b", "a/b", "/", "a/", "/a", "b/a/b", "a!", "#"}
	state := uint64(41)
	for round := range 60 {
		var n *node.Node
		var pairs []pair
		for range next(&state, 30) {
			var row []string
			for range 1 + next(&state, 3) {
				row = append(row, levels[next(&state, len(levels))])
			}
			sub := next(&state, 5) - 1
			n = put(n, sub, row...)
			pairs = append(pairs, pair{strings.Join(row, "/"), sub})
		}
		check(t, "round "+strconv.Itoa(round), n, pairs...)
	}
}

// R6: the same calls have the same answers.
func TestSameAgain(t *testing.T) {
	play := func() string {
		var told []string
		state := uint64(6)
		var pairs []pair
		for range 200 {
			pairs = append(pairs, pair{asked[next(&state, len(asked))], next(&state, 9) - 4})
			n := Of(each(pairs...))
			for text, sub := range Under(n, asked[next(&state, len(asked))]) {
				told = append(told, text, strconv.Itoa(sub))
			}
			told = append(told, Filters(n, next(&state, 9)-4)...)
			told = append(told, strconv.Itoa(n.Size()))
		}
		return strings.Join(told, " ")
	}
	if play() != play() {
		t.Fatal("another answer")
	}
}
