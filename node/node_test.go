package node

import (
	"iter"
	"maps"
	"math"
	"slices"
	"strconv"
	"strings"
	"testing"

	"bellman/set"
)

// none is the nil node, of which all others are made.
var none *Node

// place is a level with the kid that is there, as Kids tells them.
type place struct {
	level string
	kid   *Node
}

// others are levels that are asked for besides those that a node has.
var others = []string{"", "a", "b", "ab", "A", "a/", "/", "a/b", "+", "#", "$s", " ", "\x00", "a\x00", "\xff", "é"}

// otherSubs are subscribers that are asked for besides those that a node has.
var otherSubs = []int{0, 1, 2, 3, -1, 8, 9, math.MinInt, math.MaxInt, 1 << 32, 1<<32 + 1}

func placesOf(n *Node) []place {
	var places []place
	for level, kid := range n.Kids() {
		places = append(places, place{level, kid})
	}
	return places
}

func subsOf(n *Node) []int {
	return slices.Collect(n.Subs().All())
}

// check asks a node all that may be asked, twice, as asking changes nothing: these are its size, its subscribers and its kids.
func check(t *testing.T, what string, n *Node, size int, subs []int, kids ...place) {
	t.Helper()
	for range 2 {
		if got := subsOf(n); !slices.Equal(got, subs) || n.Subs().Len() != len(subs) {
			t.Fatalf("%s: Subs %v, want %v", what, got, subs)
		}
		for _, sub := range slices.Concat(subs, otherSubs) {
			if n.Subs().Has(sub) != slices.Contains(subs, sub) {
				t.Fatalf("%s: %d among its Subs: %v", what, sub, n.Subs().Has(sub))
			}
		}
		if got := placesOf(n); !slices.Equal(got, kids) {
			t.Fatalf("%s: Kids %v, want %v", what, got, kids)
		}
		for _, p := range kids {
			if n.Kid(p.level) != p.kid {
				t.Fatalf("%s: Kid(%q) isn't the one that was put", what, p.level)
			}
		}
		for _, level := range others {
			if n.Kid(level) != nil && !slices.ContainsFunc(kids, func(p place) bool { return p.level == level }) {
				t.Fatalf("%s: Kid(%q), though it has none", what, level)
			}
		}
		if n.Bare() != (len(subs)+len(kids) == 0) {
			t.Fatalf("%s: Bare %v", what, n.Bare())
		}
		if n.Size() != size {
			t.Fatalf("%s: Size %d, want %d", what, n.Size(), size)
		}
	}
}

// leaf tells a node without kids that has these.
func leaf(subs ...int) *Node {
	n := none
	for _, sub := range subs {
		n = n.WithSub(sub)
	}
	return n
}

// bares are all kinds of nodes that have neither subscribers nor kids, a nil one among them.
func bares() map[string]*Node {
	full := leaf(1).WithKid("a", leaf(2))
	return map[string]*Node{
		"nil":                             nil,
		"nil without a subscriber":        none.WithoutSub(1),
		"nil without a kid":               none.WithKid("a", nil),
		"nil with a bare kid":             none.WithKid("a", none.WithoutSub(1)),
		"its subscriber was taken away":   leaf(1).WithoutSub(1),
		"its subscribers were taken away": leaf(1, 2, 3).WithoutSub(2).WithoutSub(3).WithoutSub(1),
		"its kid was taken away by nil":   none.WithKid("a", leaf(1)).WithKid("a", nil),
		"its kid was taken away by bare":  none.WithKid("a", leaf(1)).WithKid("a", leaf(1).WithoutSub(1)),
		"all was taken away":              full.WithKid("a", nil).WithoutSub(1),
		"all was taken away, turned":      full.WithoutSub(1).WithKid("a", nil),
	}
}

// P12.1: the chapter's example.
func TestExample(t *testing.T) {
	if got := none.WithSub(1).Size(); got != 1 {
		t.Fatal(got)
	}
	check(t, "WithSub(1)", none.WithSub(1), 1, []int{1})
}

// P12.1: subscribers are set and taken away, also where one is there already, or isn't there.
func TestSubs(t *testing.T) {
	n := none.WithSub(3)
	check(t, "one", n, 1, []int{3})
	n = n.WithSub(1)
	check(t, "one below it", n, 1, []int{1, 3})
	n = n.WithSub(3)
	check(t, "there already", n, 1, []int{1, 3})
	n = n.WithSub(2)
	check(t, "one between", n, 1, []int{1, 2, 3})
	n = n.WithoutSub(4)
	check(t, "not there, above", n, 1, []int{1, 2, 3})
	n = n.WithoutSub(0)
	check(t, "not there, below", n, 1, []int{1, 2, 3})
	n = n.WithoutSub(2)
	check(t, "taken away", n, 1, []int{1, 3})
	n = n.WithoutSub(2)
	check(t, "taken away already", n, 1, []int{1, 3})
	n = n.WithoutSub(1).WithoutSub(3)
	check(t, "all are taken away", n, 1, nil)
	n = n.WithoutSub(3)
	check(t, "taken away from none", n, 1, nil)
	n = n.WithSub(2)
	check(t, "again", n, 1, []int{2})
}

// P12.1: any number is a subscriber as others are.
func TestAnySub(t *testing.T) {
	subs := []int{math.MinInt, -1 << 32, -9, -1, 0, 1, 8, 9, 1 << 32, math.MaxInt}
	n := none
	for _, sub := range subs {
		check(t, "on its own", none.WithSub(sub), 1, []int{sub})
		check(t, "on its own, taken away", none.WithSub(sub).WithoutSub(sub), 1, nil)
	}
	for _, sub := range slices.Backward(subs) {
		n = n.WithSub(sub)
	}
	check(t, "all", n, 1, subs)
	for i, sub := range subs {
		n = n.WithoutSub(sub)
		check(t, "taken away", n, 1, subs[i+1:])
	}
}

// orders tells all orders of these.
func orders[T any](l []T) iter.Seq[[]T] {
	return func(yield func([]T) bool) {
		if len(l) == 0 {
			yield(nil)
			return
		}
		for i := range l {
			for order := range orders(slices.Delete(slices.Clone(l), i, i+1)) {
				if !yield(append(order, l[i])) {
					return
				}
			}
		}
	}
}

// P12.1: kids that are put in any order are told by their levels, rising byte by byte; and so are those that are left of them.
func TestKidsRise(t *testing.T) {
	places := []place{{"", leaf(1)}, {"a", leaf(2)}, {"a\x00", leaf(3)}, {"ab", leaf(4)}, {"b", leaf(5)}, {"\xff", leaf(6)}}
	for order := range orders(places) {
		n := none
		for _, p := range order {
			n = n.WithKid(p.level, p.kid)
		}
		check(t, "all", n, 7, nil, places...)
		left := slices.Clone(places)
		for _, p := range order {
			n = n.WithKid(p.level, nil)
			left = slices.DeleteFunc(left, func(q place) bool { return p == q })
			check(t, "one is taken away", n, 1+len(left), nil, left...)
		}
	}
}

// P12.1: levels are any texts, also such as no topic and no filter has; each is one level.
func TestAnyLevel(t *testing.T) {
	levels := []string{
		"", "\x00", "\x00\x00", "\n", " ", "#", "##", "$s", "+", "+a", "/", "//", "10", "9", "A", "Z", "a", "a ", "a/", "a/+", "a/b", "aa", "z",
		strings.Repeat("z", 1000), "\x7f", "\x80", "e\u0301", "é", "\u2028", "\uFFFD", "\U0001F600", "\xff", "\xff\xff",
	}
	slices.Sort(levels)
	n := none
	var want []place
	for i, level := range levels {
		kid := leaf(i)
		check(t, level, none.WithKid(level, kid), 2, nil, place{level, kid})
		want = append(want, place{level, kid})
	}
	for _, p := range slices.Backward(want) {
		n = n.WithKid(p.level, p.kid)
	}
	check(t, "all", n, 1+len(levels), nil, want...)
}

// P12.1: the empty text is a level as others are.
func TestEmptyLevel(t *testing.T) {
	one, other := leaf(1), leaf(2)
	n := none.WithKid("", one)
	check(t, "put", n, 2, nil, place{"", one})
	n = n.WithKid("a", other)
	check(t, "another one", n, 3, nil, place{"", one}, place{"a", other})
	n = n.WithKid("", other)
	check(t, "there already", n, 3, nil, place{"", other}, place{"a", other})
	check(t, "itself", n.WithKid("", n), 5, nil, place{"", n}, place{"a", other})
	n = n.WithKid("", nil)
	check(t, "taken away", n, 2, nil, place{"a", other})
	n = n.WithKid("", nil)
	check(t, "taken away already", n, 2, nil, place{"a", other})
}

// P12.1: a kid that is put where there is one stands instead of it, also if it is that one itself.
func TestKidReplaced(t *testing.T) {
	big := leaf(1).WithKid("x", leaf(2)).WithKid("y", leaf(3))
	small := leaf(4)
	n := none.WithSub(9).WithKid("a", small).WithKid("b", small).WithKid("c", small)
	check(t, "small", n, 4, []int{9}, place{"a", small}, place{"b", small}, place{"c", small})
	n = n.WithKid("b", big)
	check(t, "big", n, 6, []int{9}, place{"a", small}, place{"b", big}, place{"c", small})
	n = n.WithKid("b", big)
	check(t, "the same", n, 6, []int{9}, place{"a", small}, place{"b", big}, place{"c", small})
	n = n.WithKid("a", big).WithKid("c", big)
	check(t, "all big", n, 10, []int{9}, place{"a", big}, place{"b", big}, place{"c", big})
	n = n.WithKid("b", small)
	check(t, "small again", n, 8, []int{9}, place{"a", big}, place{"b", small}, place{"c", big})
}

// P12.1, P12.2: nil and each bare kid take the one away that is there, and do nothing where there is none.
func TestKidTakenAway(t *testing.T) {
	one, other := leaf(1), leaf(2).WithKid("a", leaf(3))
	n := leaf(7).WithKid("a", one).WithKid("b", other).WithKid("c", one)
	for what, bare := range bares() {
		check(t, what, n.WithKid("a", bare), 4, []int{7}, place{"b", other}, place{"c", one})
		check(t, what, n.WithKid("b", bare), 3, []int{7}, place{"a", one}, place{"c", one})
		check(t, what, n.WithKid("c", bare), 4, []int{7}, place{"a", one}, place{"b", other})
		check(t, what, n.WithKid("a", bare).WithKid("c", bare).WithKid("b", bare), 1, []int{7})
		for _, level := range []string{"", "A", "aa", "bb", "d", "a/b", "\xff"} {
			check(t, what+", where there is none", n.WithKid(level, bare), 5, []int{7}, place{"a", one}, place{"b", other}, place{"c", one})
			check(t, what+", of a node without kids", leaf(7).WithKid(level, bare), 1, []int{7})
			check(t, what+", of nil", none.WithKid(level, bare), 1, nil)
		}
		check(t, what+", and put again", n.WithKid("b", bare).WithKid("b", one), 4, []int{7}, place{"a", one}, place{"b", one}, place{"c", one})
	}
	check(t, "the node itself", n, 5, []int{7}, place{"a", one}, place{"b", other}, place{"c", one})
}

// P12.1: a kid's kids aren't the node's, and taking away at one level leaves what is below the others.
func TestKidsOfKids(t *testing.T) {
	deep := leaf(1)
	middle := none.WithKid("b", deep)
	n := none.WithKid("a", middle)
	check(t, "three levels", n, 3, nil, place{"a", middle})
	check(t, "two levels", n.Kid("a"), 2, nil, place{"b", deep})
	check(t, "one level", n.Kid("a").Kid("b"), 1, []int{1})
	check(t, "none", n.Kid("a").Kid("b").Kid("c"), 0, nil)
	check(t, "none behind none", n.Kid("b").Kid("b").Kid("c"), 0, nil)
	check(t, "b isn't a's", n.WithKid("b", nil), 3, nil, place{"a", middle})
}

// P12.1: what is set of the subscribers leaves the kids as they are, and the other way round.
func TestSubsBesideKids(t *testing.T) {
	one, other := leaf(1), leaf(2)
	places := []place{{"a", one}, {"b", other}}
	n := leaf(5).WithKid("b", other).WithKid("a", one)
	check(t, "both", n, 3, []int{5}, places...)
	check(t, "WithSub", n.WithSub(4), 3, []int{4, 5}, places...)
	check(t, "WithSub, there already", n.WithSub(5), 3, []int{5}, places...)
	check(t, "WithoutSub, not there", n.WithoutSub(1), 3, []int{5}, places...)
	check(t, "WithoutSub", n.WithoutSub(5), 3, nil, places...)
	check(t, "WithKid", n.WithKid("c", one), 4, []int{5}, place{"a", one}, place{"b", other}, place{"c", one})
	check(t, "WithKid, nil", n.WithKid("a", nil), 2, []int{5}, place{"b", other})
	more := one.WithSub(5)
	check(t, "a kid's subscribers", n.WithKid("a", more).WithoutSub(5), 3, nil, place{"a", more}, place{"b", other})
	check(t, "the kid's own", more, 1, []int{1, 5})
}

// P12.1: Kids begins anew each time, may be ended at each place, and may be gone through within itself.
func TestKidsAgain(t *testing.T) {
	want := []place{{"", leaf(1)}, {"a", leaf(2)}, {"b", leaf(3)}, {"c", leaf(4)}}
	n := none
	for _, p := range want {
		n = n.WithKid(p.level, p.kid)
	}
	kids := n.Kids()
	for steps := range len(want) + 1 {
		var seen []place
		for level, kid := range kids {
			if len(seen) == steps {
				break
			}
			seen = append(seen, place{level, kid})
		}
		if !slices.Equal(seen, want[:steps]) {
			t.Fatalf("ended behind %d: %v", steps, seen)
		}
		check(t, "ended early", n, 5, nil, want...)
	}
	var nested []string
	for x := range kids {
		for y := range kids {
			nested = append(nested, x+"-"+y)
			if x == y {
				break
			}
		}
	}
	if got := strings.Join(nested, " "); got != "- a- a-a b- b-a b-b c- c-a c-b c-c" {
		t.Fatal(got)
	}
}

// P12.1: a range that is ended isn't gone on with.
func TestKidsEnds(t *testing.T) {
	n := none
	for i := range 5 {
		n = n.WithKid(strconv.Itoa(i), leaf(i))
	}
	for most := 1; most < 8; most++ {
		called := 0
		n.Kids()(func(level string, kid *Node) bool {
			if level != strconv.Itoa(called) || kid != n.Kid(level) {
				t.Fatalf("%q, want %d", level, called)
			}
			called++
			return called < most
		})
		if called != min(most, 5) {
			t.Fatalf("ended behind %d: %d", most, called)
		}
	}
}

// P12.1: each node is counted as often as it stands there: the very same kid at several levels, and at several depths.
func TestSizeOfSameKids(t *testing.T) {
	one := leaf(1)
	two := none.WithKid("a", one)
	three := two.WithKid("b", one)
	check(t, "twice", three, 3, nil, place{"a", one}, place{"b", one})
	both := three.WithKid("c", two)
	check(t, "at two depths", both, 5, nil, place{"a", one}, place{"b", one}, place{"c", two})
	all := both.WithKid("d", both).WithKid("e", both).WithKid("f", three).WithKid("g", one)
	check(t, "at three depths", all, 5+5+5+3+1, nil, place{"a", one}, place{"b", one}, place{"c", two}, place{"d", both}, place{"e", both}, place{"f", three}, place{"g", one})
	check(t, "with itself below", all.WithKid("a", all), 19-1+19, nil, place{"a", all}, place{"b", one}, place{"c", two}, place{"d", both}, place{"e", both}, place{"f", three}, place{"g", one})
	check(t, "one of them is taken away", all.WithKid("d", nil), 14, nil, place{"a", one}, place{"b", one}, place{"c", two}, place{"e", both}, place{"f", three}, place{"g", one})
	check(t, "one instead of another", all.WithKid("d", three), 17, nil, place{"a", one}, place{"b", one}, place{"c", two}, place{"d", three}, place{"e", both}, place{"f", three}, place{"g", one})
	check(t, "a subscriber more", all.WithSub(3), 19, []int{3}, placesOf(all)...)
}

// P1, P12.1: the same kid twice at each of many depths: far more nodes than can be gone through are counted all the same.
func TestSizeDoubles(t *testing.T) {
	n := leaf(1)
	for deep := 1; deep <= 62; deep++ {
		n = none.WithKid("a", n).WithKid("b", n)
		size := 1<<(deep+1) - 1
		if n.Size() != size {
			t.Fatalf("%d deep: Size %d, want %d", deep, n.Size(), size)
		}
		if n.WithSub(2).Size() != size || n.WithoutSub(2).Size() != size || n.WithKid("c", nil).Size() != size {
			t.Fatalf("%d deep: another Size beside as many kids", deep)
		}
		if got := n.WithKid("b", leaf(1)).Size(); got != size/2+2 {
			t.Fatalf("%d deep: Size %d, one kid of which is small", deep, got)
		}
	}
}

// P1, P12.1: as deep as the document's limits go.
func TestDeep(t *testing.T) {
	const deep = 1 << 16
	n := leaf(1)
	for i := range deep {
		n = none.WithKid("a", n)
		if n.Size() != i+2 {
			t.Fatalf("Size %d, want %d", n.Size(), i+2)
		}
	}
	for i := range deep {
		if n.Bare() || n.Size() != deep-i+1 {
			t.Fatalf("Size %d, want %d", n.Size(), deep-i+1)
		}
		n = n.Kid("a")
	}
	check(t, "the deepest one", n, 1, []int{1})
}

// P12.1: as many kids and subscribers as one likes.
func TestMany(t *testing.T) {
	const many = 1000
	n := none
	var subs []int
	var places []place
	for i := range many {
		at := i * 7 % many
		n = n.WithSub(at).WithKid(strconv.Itoa(many+at), leaf(at))
		subs = append(subs, i)
	}
	for i := range many {
		level := strconv.Itoa(many + i)
		places = append(places, place{level, n.Kid(level)})
		check(t, "its kid", n.Kid(level), 1, []int{i})
	}
	check(t, "many", n, 1+many, subs, places...)
}

// P12.1: a node is bare just if it has neither, and so again if all was taken away, in whatever order.
func TestBareAgain(t *testing.T) {
	for what, bare := range bares() {
		size := 1
		if bare == nil {
			size = 0
		}
		check(t, what, bare, size, nil)
		check(t, what+", WithSub", bare.WithSub(1), 1, []int{1})
		check(t, what+", WithSub, WithoutSub", bare.WithSub(1).WithoutSub(1), 1, nil)
		kid := leaf(1)
		check(t, what+", WithKid", bare.WithKid("a", kid), 2, nil, place{"a", kid})
		check(t, what+", WithKid, nil", bare.WithKid("a", kid).WithKid("a", nil), 1, nil)
	}
	deeds := []func(*Node) *Node{
		func(n *Node) *Node { return n.WithoutSub(1) },
		func(n *Node) *Node { return n.WithoutSub(2) },
		func(n *Node) *Node { return n.WithKid("a", nil) },
		func(n *Node) *Node { return n.WithKid("b", none.WithoutSub(1)) },
	}
	for order := range orders(deeds) {
		n := leaf(1, 2).WithKid("a", leaf(3)).WithKid("b", leaf(4))
		for i, deed := range order {
			if n.Bare() {
				t.Fatalf("Bare behind %d of %d", i, len(order))
			}
			n = deed(n)
		}
		check(t, "all was taken away", n, 1, nil)
	}
}

// P12.1: a nil *Node is bare and has Size 0; what is set of it is that of a bare node, whose Size is 1; and it stays nil.
func TestNil(t *testing.T) {
	kid := leaf(1)
	for range 2 {
		check(t, "nil", none, 0, nil)
		if none.Kids() == nil || none.Subs().All() == nil {
			t.Fatal("a range that is nil")
		}
		for range none.Kids() {
			t.Fatal("Kids")
		}
		check(t, "WithSub", none.WithSub(0), 1, []int{0})
		check(t, "WithoutSub", none.WithoutSub(0), 1, nil)
		check(t, "WithKid", none.WithKid("", kid), 2, nil, place{"", kid})
		check(t, "WithKid, nil", none.WithKid("", nil), 1, nil)
		check(t, "WithKid, bare", none.WithKid("a", none.WithoutSub(0)), 1, nil)
		if none.WithoutSub(0) == nil || none.WithKid("a", nil) == nil {
			t.Fatal("what is set of nil is nil")
		}
	}
}

// P12.2: nodes that are alike are told apart: Kid and Kids tell the very one that was put there last.
func TestVeryNode(t *testing.T) {
	one, alike := leaf(1).WithKid("x", leaf(2)), leaf(1).WithKid("x", leaf(2))
	n := none.WithKid("a", one).WithKid("b", alike)
	check(t, "alike", n, 5, nil, place{"a", one}, place{"b", alike})
	check(t, "turned", n.WithKid("a", alike).WithKid("b", one), 5, nil, place{"a", alike}, place{"b", one})
	check(t, "both the same", n.WithKid("b", one), 5, nil, place{"a", one}, place{"b", one})
	for _, next := range []*Node{n.WithSub(3), n.WithoutSub(3), n.WithKid("c", one), n.WithKid("c", nil), n.WithSub(1).WithoutSub(1)} {
		if next.Kid("a") != one || next.Kid("b") != alike {
			t.Fatal("another kid, though none was set there")
		}
	}
	within := none.WithKid("a", n)
	if within.Kid("a") != n || within.Kid("a").Kid("a") != one || within.Kid("a").Kid("b") != alike {
		t.Fatal("another kid within a kid")
	}
}

// P12.2: what is set tells a new node, also where nothing changes.
func TestNewNode(t *testing.T) {
	kid := leaf(2)
	n := leaf(1).WithKid("a", kid)
	for what, next := range map[string]*Node{
		"WithSub":                n.WithSub(3),
		"WithSub, there already": n.WithSub(1),
		"WithoutSub":             n.WithoutSub(1),
		"WithoutSub, not there":  n.WithoutSub(3),
		"WithKid":                n.WithKid("b", kid),
		"WithKid, the same":      n.WithKid("a", kid),
		"WithKid, nil":           n.WithKid("a", nil),
		"WithKid, not there":     n.WithKid("b", nil),
	} {
		if next == n || next == kid {
			t.Errorf("%s: no new node", what)
		}
	}
	check(t, "the node itself", n, 2, []int{1}, place{"a", kid})
}

// seen is what was told of a node at some time, with what it told as itself.
type seen struct {
	node  *Node
	size  int
	list  []int
	kids  []place
	subs  set.Set[int]
	again iter.Seq2[string, *Node]
}

func see(n *Node) seen {
	return seen{node: n, size: n.Size(), list: subsOf(n), kids: placesOf(n), subs: n.Subs(), again: n.Kids()}
}

// stays holds a node, and what it told, against what it was.
func (s seen) stays(t *testing.T, what string) {
	t.Helper()
	check(t, what, s.node, s.size, s.list, s.kids...)
	if got := slices.Collect(s.subs.All()); !slices.Equal(got, s.list) || s.subs.Len() != len(s.list) {
		t.Fatalf("%s: what Subs told is %v, was %v", what, got, s.list)
	}
	var kids []place
	for level, kid := range s.again {
		kids = append(kids, place{level, kid})
	}
	if !slices.Equal(kids, s.kids) {
		t.Fatalf("%s: what Kids goes through is %v, was %v", what, kids, s.kids)
	}
}

// P12.2: nothing of a node, nor of its kids, changes by what is made of it, by each call, once and again.
func TestStays(t *testing.T) {
	kid := leaf(2, 4).WithKid("x", leaf(1))
	n := leaf(2, 4, 6).WithKid("b", kid).WithKid("d", kid).WithKid("f", leaf(7))
	all := []seen{see(none), see(kid), see(n), see(kid.Kid("x"))}
	next := n
	for i := range 8 {
		level := string(rune('a' + i))
		for _, from := range []*Node{n, next} {
			for _, made := range []*Node{from.WithSub(i), from.WithoutSub(i), from.WithKid(level, kid), from.WithKid(level, n), from.WithKid(level, nil), from.WithKid(level, leaf(1).WithoutSub(1))} {
				all = append(all, see(made))
				for _, s := range all {
					s.stays(t, "made "+level)
				}
				next = made
			}
		}
	}
}

// P12.2: two nodes that are made of one know nothing of each other.
func TestBranches(t *testing.T) {
	n := none
	for i := range 20 {
		one, other := n.WithSub(2*i), n.WithSub(2*i+1)
		want := subsOf(n)
		check(t, "one", one, 1, append(slices.Clone(want), 2*i))
		check(t, "other", other, 1, append(slices.Clone(want), 2*i+1))
		check(t, "both come from", n, n.Size(), want)
		n = one
	}
	kid := leaf(1)
	n = none
	for i := range 20 {
		one, other := n.WithKid(strconv.Itoa(100+2*i), kid), n.WithKid(strconv.Itoa(101+2*i), kid)
		want := placesOf(n)
		check(t, "one", one, i+2, nil, append(slices.Clone(want), place{strconv.Itoa(100 + 2*i), kid})...)
		check(t, "other", other, i+2, nil, append(slices.Clone(want), place{strconv.Itoa(101 + 2*i), kid})...)
		check(t, "both come from", n, n.Size(), nil, want...)
		n = one
	}
}

// P12.2: what is made of a node while its kids are gone through does not change what comes.
func TestMadeWithinRanges(t *testing.T) {
	n := none.WithKid("b", leaf(1)).WithKid("d", leaf(2)).WithKid("f", leaf(3))
	was, next := see(n), n
	var levels string
	for level, kid := range n.Kids() {
		levels += level
		next = next.WithKid(level, nil).WithKid(level+"x", kid).WithKid("a", kid).WithKid("z", kid).WithSub(len(levels))
	}
	if levels != "bdf" {
		t.Fatal(levels)
	}
	was.stays(t, "gone through")
	check(t, "made", next, 6, []int{1, 2, 3}, place{"a", n.Kid("f")}, place{"bx", n.Kid("b")}, place{"dx", n.Kid("d")}, place{"fx", n.Kid("f")}, place{"z", n.Kid("f")})
}

// R4: lists that are gathered of what was told are the asker's.
func TestWrittenOver(t *testing.T) {
	kid := leaf(3)
	n := leaf(1, 2).WithKid("a", kid).WithKid("b", kid)
	subs, kids := subsOf(n), placesOf(n)
	clear(subs)
	clear(kids)
	_, _ = append(subs[:1], 9), append(kids[:1], place{"c", n})
	check(t, "written over", n, 3, []int{1, 2}, place{"a", kid}, place{"b", kid})
}

// words is what the chapter says of a node, as plainly as it can be done: lists of its own, that nobody shares.
type words struct {
	node *Node
	subs []int
	kids map[string]*words
}

func (w *words) copied() *words {
	if w.node == nil {
		return &words{kids: map[string]*words{}}
	}
	return &words{subs: slices.Clone(w.subs), kids: maps.Clone(w.kids)}
}

func (w *words) bare() bool {
	return len(w.subs)+len(w.kids) == 0
}

// size goes through all that stands below, as often as it stands there.
func (w *words) size() int {
	if w.node == nil {
		return 0
	}
	size := 1
	for _, kid := range w.kids {
		size += kid.size()
	}
	return size
}

func (w *words) withSub(sub int) *words {
	next := w.withoutSub(sub)
	next.subs = append(next.subs, sub)
	slices.Sort(next.subs)
	next.node = w.node.WithSub(sub)
	return next
}

func (w *words) withoutSub(sub int) *words {
	next := w.copied()
	next.subs = slices.DeleteFunc(next.subs, func(x int) bool { return x == sub })
	next.node = w.node.WithoutSub(sub)
	return next
}

func (w *words) withKid(level string, kid *words) *words {
	next := w.copied()
	delete(next.kids, level)
	if !kid.bare() {
		next.kids[level] = kid
	}
	next.node = w.node.WithKid(level, kid.node)
	return next
}

// holds holds the node against the words.
func (w *words) holds(t *testing.T, what string) {
	t.Helper()
	var kids []place
	for _, level := range slices.Sorted(maps.Keys(w.kids)) {
		kids = append(kids, place{level, w.kids[level].node})
	}
	check(t, what, w.node, w.size(), w.subs, kids...)
	for _, p := range kids {
		if p.kid == nil || p.kid.Bare() {
			t.Fatalf("%s: a bare kid at %q", what, p.level)
		}
	}
}

// deeds tells the words of all that can be made of some with one call, of which each holds.
func deeds(t *testing.T, all []*words, subs []int, levels []string) iter.Seq[*words] {
	return func(yield func(*words) bool) {
		for _, from := range all {
			var made []*words
			for _, sub := range subs {
				made = append(made, from.withSub(sub), from.withoutSub(sub))
			}
			for _, level := range levels {
				for _, kid := range all {
					made = append(made, from.withKid(level, kid))
				}
			}
			for _, next := range made {
				next.holds(t, "made")
				if !yield(next) {
					return
				}
			}
		}
	}
}

// P12.1, P12.2: all rows of up to 4 calls, each of any node that was made by then, held against the chapter's words: what is made, and all that it was made of.
func TestAllShortRows(t *testing.T) {
	const longest = 4
	var rows func(all []*words)
	rows = func(all []*words) {
		if len(all) == 1+longest {
			for _, w := range all {
				w.holds(t, "made before")
			}
			return
		}
		for next := range deeds(t, all, []int{1}, []string{"", "a"}) {
			rows(append(all[:len(all):len(all)], next))
		}
	}
	rows([]*words{{}})
	for range deeds(t, []*words{{}, (&words{}).withSub(1), (&words{}).withSub(2)}, []int{0, 1, 2, 3}, others) {
	}
}

// P12.1, P12.2: long rows of calls, of nodes that were made at any time, held against the chapter's words; all that was told stays to the end.
func TestLongRows(t *testing.T) {
	const long, biggest = 1500, 200
	for seed := range 4 {
		next := uint64(seed + 1)
		pick := func(n int) int {
			next = next*6364136223846793005 + 1442695040888963407
			return int(next>>33) % n
		}
		all, small, told := []*words{{}}, []*words{{}}, []seen{see(none)}
		for range long {
			// Mostly of what was made last, so that nodes grow.
			from := all[max(0, len(all)-1-pick(8))]
			if pick(5) == 0 {
				from = all[pick(len(all))]
			}
			var made *words
			switch sub, level := pick(5), others[pick(5)]; pick(6) {
			case 0:
				made = from.withSub(sub)
			case 1, 2:
				made = from.withoutSub(sub)
			default:
				made = from.withKid(level, small[max(0, len(small)-1-pick(1+pick(len(small))))])
			}
			made.holds(t, "made")
			all, told = append(all, made), append(told, see(made.node))
			if made.size() <= biggest {
				small = append(small, made)
			}
		}
		for i, w := range all {
			w.holds(t, "made before")
			told[i].stays(t, "told before")
		}
	}
}

// R6: the same calls have the same answers.
func TestSameAgain(t *testing.T) {
	play := func() string {
		n := none
		var all []string
		for i := range 200 {
			n = n.WithSub(i*7%11).WithoutSub(i*5%13).WithKid(others[i%len(others)], leaf(i)).WithKid(others[i*i%len(others)], nil)
			if i%20 == 0 {
				n = none.WithKid("n", n).WithSub(i)
			}
			all = append(all, strconv.Itoa(n.Size()), strconv.FormatBool(n.Bare()))
			for sub := range n.Subs().All() {
				all = append(all, strconv.Itoa(sub))
			}
			for level, kid := range n.Kids() {
				all = append(all, level, strconv.Itoa(kid.Size()))
			}
		}
		return strings.Join(all, " ")
	}
	if play() != play() {
		t.Fatal("another answer")
	}
}
