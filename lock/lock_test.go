package lock

import (
	"math"
	"slices"
	"testing"

	"bellman/api"
)

// noOwners are numbers that no owner has.
var noOwners = []int{0, -1, -2, -1024, math.MinInt + 1, math.MinInt}

// noGroups are numbers of locks that no group has.
var noGroups = []int{0, -1, -1024, math.MinInt, 1025, 1026, 2048, 1 << 32, 1<<32 + 3, math.MaxInt}

// check asks a lock who holds it and how often it came to be held, twice, as asking changes nothing.
func check(t *testing.T, what string, l *Lock, owner, count int) {
	t.Helper()
	for range 2 {
		if got := l.Owner(); got != owner {
			t.Fatalf("%s: Owner %d, want %d", what, got, owner)
		}
		if got := l.Count(); got != count {
			t.Fatalf("%s: Count %d, want %d", what, got, count)
		}
	}
}

// checkHeld asks a group what owner holds, twice, and writes over what it was told, as that is the asker's.
func checkHeld(t *testing.T, what string, g *Group, owner int, want ...int) {
	t.Helper()
	for range 2 {
		got := g.Held(owner)
		if !slices.Equal(got, want) {
			t.Fatalf("%s: Held(%d) %v, want %v", what, owner, got, want)
		}
		for i := range got {
			got[i] = -1
		}
	}
}

// deed is a Try or a Free of an owner.
type deed struct {
	free  bool
	owner int
}

// told is what a lock is to tell: its owner, and how often Try was true.
type told struct {
	owner, count int
}

// do does the deed, holds its answer against what was told ahead, and says what is told behind it.
func do(t *testing.T, l *Lock, d deed, was told) told {
	t.Helper()
	if d.free {
		want := api.ErrState
		if d.owner >= 1 && d.owner == was.owner {
			want, was.owner = api.OK, 0
		}
		if got := l.Free(d.owner); got != want {
			t.Fatalf("Free(%d): %d, want %d", d.owner, got, want)
		}
		return was
	}
	want := d.owner >= 1 && was.owner == 0
	if got := l.Try(d.owner); got != want {
		t.Fatalf("Try(%d): %v with owner %d", d.owner, got, was.owner)
	}
	if want {
		return told{d.owner, was.count + 1}
	}
	return was
}

// P5.1: ordinary tries and frees, each with its answer, the owner and the count behind it.
func TestTryAndFree(t *testing.T) {
	l := new(Lock)
	for i, x := range []struct {
		deed
		answer       bool
		owner, count int
	}{
		{deed{false, 1}, true, 1, 1},
		{deed{false, 2}, false, 1, 1},
		{deed{false, 1}, false, 1, 1},
		{deed{true, 2}, false, 1, 1},
		{deed{true, 1}, true, 0, 1},
		{deed{true, 1}, false, 0, 1},
		{deed{true, 2}, false, 0, 1},
		{deed{false, 2}, true, 2, 2},
		{deed{true, 1}, false, 2, 2},
		{deed{false, 1}, false, 2, 2},
		{deed{true, 2}, true, 0, 2},
		{deed{false, 2}, true, 2, 3},
		{deed{true, 2}, true, 0, 3},
	} {
		if x.free {
			want := api.ErrState
			if x.answer {
				want = api.OK
			}
			if got := l.Free(x.deed.owner); got != want {
				t.Fatalf("%d: Free(%d): %d, want %d", i, x.deed.owner, got, want)
			}
		} else if got := l.Try(x.deed.owner); got != x.answer {
			t.Fatalf("%d: Try(%d): %v", i, x.deed.owner, got)
		}
		check(t, "behind it", l, x.owner, x.count)
	}
}

// P5.1: a lock that is held comes to be held by no other, nor once more by the same owner: one Free is enough.
func TestTryOfWhatIsHeld(t *testing.T) {
	l := new(Lock)
	if !l.Try(3) {
		t.Fatal("Try of a free lock")
	}
	for range 5 {
		for _, owner := range []int{3, 1, 2, 4, math.MaxInt} {
			if l.Try(owner) {
				t.Fatalf("Try(%d) of a lock that is held", owner)
			}
			check(t, "Try", l, 3, 1)
		}
	}
	if got := l.Free(3); got != api.OK {
		t.Fatalf("Free: %d", got)
	}
	check(t, "Free", l, 0, 1)
}

// P5.1: who doesn't hold a lock doesn't free it, be it held by another or free.
func TestFreeByOthers(t *testing.T) {
	l := new(Lock)
	for _, owner := range []int{1, 2, 7, math.MaxInt} {
		if got := l.Free(owner); got != api.ErrState {
			t.Fatalf("Free(%d) of a free lock: %d", owner, got)
		}
		check(t, "Free of a free lock", l, 0, 0)
	}
	l.Try(5)
	for _, owner := range []int{1, 4, 6, -5, math.MaxInt, 5 + 1<<32} {
		if got := l.Free(owner); got != api.ErrState {
			t.Fatalf("Free(%d) of a lock of 5: %d", owner, got)
		}
		check(t, "Free by another", l, 5, 1)
	}
}

// P5.1: who is below 1 neither comes to hold a lock nor frees one, be it free, held, or free again.
func TestNoOwners(t *testing.T) {
	l := new(Lock)
	for _, owner := range noOwners {
		if l.Try(owner) {
			t.Fatalf("Try(%d) of a free lock", owner)
		}
		if got := l.Free(owner); got != api.ErrState {
			t.Fatalf("Free(%d) of a free lock: %d", owner, got)
		}
		check(t, "free", l, 0, 0)
	}
	l.Try(1)
	for _, owner := range noOwners {
		if l.Try(owner) {
			t.Fatalf("Try(%d) of a lock that is held", owner)
		}
		if got := l.Free(owner); got != api.ErrState {
			t.Fatalf("Free(%d) of a lock that is held: %d", owner, got)
		}
		check(t, "held", l, 1, 1)
	}
	l.Free(1)
	for _, owner := range noOwners {
		if l.Try(owner) || l.Free(owner) != api.ErrState {
			t.Fatalf("%d at a lock that is free again", owner)
		}
		check(t, "free again", l, 0, 1)
	}
}

// P5.1: an owner is any number from 1 on.
func TestOwnersOfAnySize(t *testing.T) {
	l := new(Lock)
	for i, owner := range []int{1, 2, 63, 64, 65, 1024, 1025, 1 << 31, 1 << 32, 1<<32 + 1, math.MaxInt - 1, math.MaxInt} {
		if !l.Try(owner) {
			t.Fatalf("Try(%d)", owner)
		}
		check(t, "Try", l, owner, i+1)
		if l.Free(owner-1) != api.ErrState || l.Free(owner) != api.OK {
			t.Fatalf("Free(%d)", owner)
		}
		check(t, "Free", l, 0, i+1)
	}
}

// P5.1: all short rows of tries and frees, of a zero lock and of one of a group.
func TestAllShortRows(t *testing.T) {
	const longest = 4
	var all []deed
	for _, owner := range []int{-1, 0, 1, 2, 3} {
		all = append(all, deed{false, owner}, deed{true, owner})
	}
	var row func(begin func() *Lock, done []deed)
	row = func(begin func() *Lock, done []deed) {
		l, now := begin(), told{}
		for _, d := range done {
			now = do(t, l, d, now)
			check(t, "a row", l, now.owner, now.count)
		}
		if len(done) == longest {
			return
		}
		for _, d := range all {
			row(begin, append(done[:len(done):len(done)], d))
		}
	}
	row(func() *Lock { return new(Lock) }, nil)
	row(func() *Lock { return Locks(2).At(1) }, nil)
}

// P5.1: a zero lock is free, was never held, and is a lock as any other.
func TestZeroLock(t *testing.T) {
	var l Lock
	check(t, "zero", &l, 0, 0)
	if !l.Try(4) || l.Try(5) {
		t.Fatal("Try")
	}
	check(t, "Try", &l, 4, 1)
	var other Lock
	check(t, "another zero one", &other, 0, 0)
	if other.Free(4) != api.ErrState || l.Free(4) != api.OK {
		t.Fatal("Free")
	}
	check(t, "Free", &l, 0, 1)
}

// P5.1: of a nil lock nothing is done: false, ErrState, 0, also behind each call.
func TestNilLock(t *testing.T) {
	var none *Lock
	for range 2 {
		check(t, "nil", none, 0, 0)
		for _, owner := range append([]int{1, 2, math.MaxInt}, noOwners...) {
			if none.Try(owner) {
				t.Fatalf("Try(%d)", owner)
			}
			if got := none.Free(owner); got != api.ErrState {
				t.Fatalf("Free(%d): %d", owner, got)
			}
			check(t, "nil", none, 0, 0)
		}
	}
}

// P5.1: each Try that was true is counted once, and nothing else is.
func TestManyTries(t *testing.T) {
	const n = 1 << 16
	l := new(Lock)
	for i := range n {
		owner := i%5 + 1
		if !l.Try(owner) || l.Try(owner) || l.Try(owner+1) || l.Free(owner+1) != api.ErrState || l.Free(owner) != api.OK {
			t.Fatal(i, l.Owner())
		}
	}
	check(t, "many", l, 0, n)
}

// P5.2: Locks(n) has n locks, all of them free and never held, from 0 on and none beside them.
func TestLocks(t *testing.T) {
	for _, n := range []int{1, 2, 3, 63, 64, 65, 1000, 1023, 1024} {
		g := Locks(n)
		if got := g.Len(); got != n {
			t.Fatalf("Locks(%d): Len %d", n, got)
		}
		for i := range n {
			l := g.At(i)
			if l == nil {
				t.Fatalf("Locks(%d): At(%d) nil", n, i)
			}
			check(t, "new", l, 0, 0)
		}
		checkNoPlaces(t, g)
		checkHeld(t, "new", g, 1)
		checkHeld(t, "new", g, 0)
	}
}

// checkNoPlaces asks a group for locks that it hasn't.
func checkNoPlaces(t *testing.T, g *Group) {
	t.Helper()
	n := g.Len()
	for _, i := range []int{-1, -2, -n, -n - 1, n, n + 1, n + 1<<32, -1 << 32, math.MaxInt, math.MinInt, math.MinInt + 1} {
		if (i < 0 || i >= n) && g.At(i) != nil {
			t.Fatalf("a group of %d: At(%d) is there", n, i)
		}
	}
}

// checkNone asks a group that has no lock all that may be asked of it.
func checkNone(t *testing.T, g *Group) {
	t.Helper()
	for range 2 {
		if g.Len() != 0 || g.At(0) != nil || g.At(1) != nil {
			t.Fatalf("Len %d, or a lock is there", g.Len())
		}
		checkNoPlaces(t, g)
		for _, owner := range append([]int{1, 2, math.MaxInt}, noOwners...) {
			checkHeld(t, "no locks", g, owner)
		}
		if g.At(0).Try(1) || g.At(0).Free(1) != api.ErrState || g.At(0).Owner() != 0 || g.At(0).Count() != 0 {
			t.Fatal("a lock that isn't there")
		}
	}
}

// P5.2: of numbers below 1 and above 1,024 there are none.
func TestNoLocks(t *testing.T) {
	for _, n := range noGroups {
		checkNone(t, Locks(n))
	}
}

// P5.2: of a nil group: nil, none, 0.
func TestNilGroup(t *testing.T) {
	checkNone(t, nil)
}

// P5.2: At tells the lock itself, each time the same one, and another one at each other place.
func TestAtTellsTheLockItself(t *testing.T) {
	const n = 1024
	g := Locks(n)
	seen := map[*Lock]bool{}
	for i := range n {
		l := g.At(i)
		if seen[l] || g.At(i) != l {
			t.Fatalf("At(%d): another place's, or not the same again", i)
		}
		seen[l] = true
		if !l.Try(i + 1) {
			t.Fatalf("Try at %d", i)
		}
	}
	for i := range n {
		check(t, "At", g.At(i), i+1, 1)
		if g.At(i).Free(i+1) != api.OK {
			t.Fatalf("Free at %d", i)
		}
		check(t, "At", g.At(i), 0, 1)
		checkHeld(t, "behind Free", g, i+1)
	}
}

// P5.2: groups have locks of their own.
func TestGroupsOnTheirOwn(t *testing.T) {
	a, b := Locks(2), Locks(2)
	if a.At(0) == b.At(0) || !a.At(0).Try(1) || !b.At(0).Try(2) || !b.At(1).Try(1) {
		t.Fatal("Try")
	}
	checkHeld(t, "one", a, 1, 0)
	checkHeld(t, "one", a, 2)
	checkHeld(t, "other", b, 1, 1)
	checkHeld(t, "other", b, 2, 0)
}

// P5.2: Held while several owners hold several locks, whatever the order in which they came to hold them.
func TestHeld(t *testing.T) {
	g := Locks(6)
	for _, x := range []struct{ place, owner int }{{5, 1}, {0, 2}, {3, 1}, {1, 3}, {2, 1}, {3, 2}, {0, 1}} {
		g.At(x.place).Try(x.owner)
	}
	checkHeld(t, "Try", g, 1, 2, 3, 5)
	checkHeld(t, "Try", g, 2, 0)
	checkHeld(t, "Try", g, 3, 1)
	checkHeld(t, "Try", g, 4)
	checkHeld(t, "Try", g, math.MaxInt)
	g.At(3).Free(1)
	g.At(0).Free(1)
	checkHeld(t, "Free", g, 1, 2, 5)
	checkHeld(t, "Free", g, 2, 0)
	g.At(3).Try(2)
	g.At(0).Free(2)
	g.At(0).Try(1)
	g.At(4).Try(1)
	checkHeld(t, "Try again", g, 1, 0, 2, 4, 5)
	checkHeld(t, "Try again", g, 2, 3)
	for _, owner := range []int{1, 2, 3} {
		for _, i := range g.Held(owner) {
			if g.At(i).Free(owner) != api.OK {
				t.Fatalf("Free(%d) at %d", owner, i)
			}
		}
		checkHeld(t, "all freed", g, owner)
	}
}

// P5.2: who is below 1 holds none, be locks free or held, and tries of such change nothing.
func TestHeldByNoOwners(t *testing.T) {
	g := Locks(4)
	g.At(1).Try(1)
	g.At(3).Try(2)
	for _, owner := range noOwners {
		g.At(0).Try(owner)
		checkHeld(t, "some are free", g, owner)
	}
	g.At(0).Try(1)
	g.At(2).Try(1)
	for _, owner := range noOwners {
		checkHeld(t, "none is free", g, owner)
	}
	checkHeld(t, "behind it", g, 1, 0, 1, 2)
}

// P5.2: all ways in which three locks are held by two owners or free.
func TestHeldInAllWays(t *testing.T) {
	const places, owners = 3, 2
	for code := range 27 {
		g := Locks(places)
		want := [owners + 1][]int{}
		for i, rest := 0, code; i < places; i, rest = i+1, rest/3 {
			owner := rest % 3
			if owner >= 1 {
				want[owner] = append(want[owner], i)
			}
			if g.At(i).Try(owner) != (owner >= 1) {
				t.Fatalf("Try(%d)", owner)
			}
		}
		for owner := range owners + 1 {
			checkHeld(t, "held", g, owner, want[owner]...)
		}
	}
}

// P5.2: a full group, whose places are shared by several.
func TestHeldOfAFullGroup(t *testing.T) {
	const n, owners = 1024, 7
	g := Locks(n)
	want := [owners + 1][]int{}
	for i := n - 1; i >= 0; i-- {
		owner := i*5%owners + 1
		if !g.At(i).Try(owner) {
			t.Fatalf("Try at %d", i)
		}
		want[owner] = append(want[owner], i)
	}
	for owner := 1; owner <= owners; owner++ {
		slices.Reverse(want[owner])
		checkHeld(t, "full", g, owner, want[owner]...)
	}
	checkHeld(t, "full", g, owners+1)
	for i := range n {
		g.At(i).Free(g.At(i).Owner())
	}
	for owner := range owners + 2 {
		checkHeld(t, "free", g, owner)
	}
}

// P5.2, R4: what Held told stays as it was when locks are tried and freed, and is of no group's memory.
func TestHeldIsTheAskers(t *testing.T) {
	g := Locks(4)
	g.At(0).Try(1)
	g.At(2).Try(1)
	first, second := g.Held(1), g.Held(1)
	first[0] = 3
	g.At(0).Free(1)
	g.At(1).Try(1)
	if !slices.Equal(second, []int{0, 2}) || !slices.Equal(first, []int{3, 2}) {
		t.Fatal(first, second)
	}
	checkHeld(t, "behind it", g, 1, 1, 2)
	check(t, "behind it", g.At(3), 0, 0)
}
