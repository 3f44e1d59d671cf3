package cell

import (
	"errors"
	"math"
	"strings"
	"testing"
)

// check asks a cell what it has and how often it was accessed, twice, as asking is no access.
func check[T comparable](t *testing.T, what string, c *Cell[T], value T, count int) {
	t.Helper()
	for range 2 {
		if got := c.Peek(); got != value {
			t.Fatalf("%s: Peek %v, want %v", what, got, value)
		}
		if got := c.Count(); got != count {
			t.Fatalf("%s: Count %d, want %d", what, got, count)
		}
	}
}

// P4.1: New tells a cell with that value, that wasn't accessed.
func TestNew(t *testing.T) {
	for _, x := range []int{0, 1, -1, math.MaxInt, math.MinInt} {
		c := New(x)
		if c == nil {
			t.Fatalf("New(%d): nil", x)
		}
		check(t, "New", c, x, 0)
	}
}

// P4.1: each access on its own, with its answer, the value and the count behind it.
func TestLoad(t *testing.T) {
	c := New(7)
	for i := range 3 {
		if got := c.Load(); got != 7 {
			t.Fatalf("Load: %d", got)
		}
		check(t, "Load", c, 7, i+1)
	}
}

func TestStore(t *testing.T) {
	c := New(7)
	for i, x := range []int{8, 8, 0, math.MinInt, 7} {
		c.Store(x)
		check(t, "Store", c, x, i+1)
	}
}

func TestSwap(t *testing.T) {
	c, was := New(7), 7
	for i, x := range []int{8, 8, 0, math.MaxInt, 7} {
		if got := c.Swap(x); got != was {
			t.Fatalf("Swap(%d): %d, want %d", x, got, was)
		}
		check(t, "Swap", c, x, i+1)
		was = x
	}
}

// P4.1: CAS sets where it finds old, and only there; it is one access either way.
func TestCAS(t *testing.T) {
	c := New(1)
	for i, x := range []struct {
		old, x int
		ok     bool
		value  int
	}{
		{1, 2, true, 2},
		{1, 3, false, 2},
		{3, 2, false, 2},
		{2, 2, true, 2},
		{0, 5, false, 2},
		{-2, 5, false, 2},
		{2, 0, true, 0},
		{2, 1, false, 0},
		{0, math.MinInt, true, math.MinInt},
		{math.MaxInt, 1, false, math.MinInt},
		{math.MinInt, 1, true, 1},
	} {
		if ok := c.CAS(x.old, x.x); ok != x.ok {
			t.Fatalf("CAS(%d, %d): %v", x.old, x.x, ok)
		}
		check(t, "CAS", c, x.value, i+1)
	}
}

// P4.1: Peek and Count are no accesses, however often they are asked.
func TestPeekAndCountAreNoAccess(t *testing.T) {
	c := New("a")
	c.Store("b")
	for range 100 {
		check(t, "again", c, "b", 1)
	}
	if c.Load() != "b" {
		t.Error("Load behind Peek")
	}
	check(t, "Load", c, "b", 2)
}

// told is what a cell was and is to be: its value, and how many accesses it had.
type told struct {
	value, count int
}

// accesses are all that may be done with a cell of few values; each holds the answer against what was told ahead, and says what is told behind it.
func accesses(values []int) []func(t *testing.T, c *Cell[int], was told) told {
	all := []func(t *testing.T, c *Cell[int], was told) told{
		func(t *testing.T, c *Cell[int], was told) told {
			if got := c.Load(); got != was.value {
				t.Fatalf("Load: %d, want %d", got, was.value)
			}
			return told{was.value, was.count + 1}
		},
	}
	for _, x := range values {
		all = append(all, func(t *testing.T, c *Cell[int], was told) told {
			c.Store(x)
			return told{x, was.count + 1}
		}, func(t *testing.T, c *Cell[int], was told) told {
			if got := c.Swap(x); got != was.value {
				t.Fatalf("Swap(%d): %d, want %d", x, got, was.value)
			}
			return told{x, was.count + 1}
		})
		for _, old := range values {
			all = append(all, func(t *testing.T, c *Cell[int], was told) told {
				ok := c.CAS(old, x)
				if ok != (was.value == old) {
					t.Fatalf("CAS(%d, %d) at %d: %v", old, x, was.value, ok)
				}
				if ok {
					return told{x, was.count + 1}
				}
				return told{was.value, was.count + 1}
			})
		}
	}
	return all
}

// P4.1: all short rows of accesses, of cells that were made and of a zero one.
func TestAllShortRowsOfAccesses(t *testing.T) {
	const longest = 3
	all := accesses([]int{0, 1, 2})
	var row func(begin func() *Cell[int], was told, done []int)
	row = func(begin func() *Cell[int], was told, done []int) {
		if len(done) == longest {
			return
		}
		for i, access := range all {
			c, now := begin(), was
			for _, j := range done {
				now = all[j](t, c, now)
			}
			now = access(t, c, now)
			check(t, "a row of accesses", c, now.value, now.count)
			row(begin, was, append(done[:len(done):len(done)], i))
		}
	}
	row(func() *Cell[int] { return New(1) }, told{1, 0}, nil)
	row(func() *Cell[int] { return New(0) }, told{0, 0}, nil)
	row(func() *Cell[int] { return new(Cell[int]) }, told{0, 0}, nil)
}

// P4.1: of a nil cell nothing is done, and zero values are told, behind each access too.
func TestNilCell(t *testing.T) {
	var none *Cell[int]
	for range 2 {
		check(t, "nil", none, 0, 0)
		none.Store(5)
		check(t, "Store", none, 0, 0)
		if got := none.Load(); got != 0 {
			t.Errorf("Load: %d", got)
		}
		if got := none.Swap(6); got != 0 {
			t.Errorf("Swap: %d", got)
		}
		if none.CAS(0, 1) || none.CAS(1, 0) || none.CAS(0, 0) {
			t.Error("CAS: true")
		}
		check(t, "all", none, 0, 0)
	}
	var texts *Cell[string]
	texts.Store("x")
	if texts.Load() != "" || texts.Swap("y") != "" || texts.CAS("", "z") || texts.Count() != 0 || texts.Peek() != "" {
		t.Error("a nil cell of texts")
	}
	var pointers *Cell[*int]
	pointers.Store(new(int))
	if pointers.Load() != nil || pointers.Swap(new(int)) != nil || pointers.CAS(nil, new(int)) || pointers.Count() != 0 || pointers.Peek() != nil {
		t.Error("a nil cell of pointers")
	}
}

// P4.1: a zero cell has a zero value, wasn't accessed, and is a cell as any other.
func TestZeroCell(t *testing.T) {
	var c Cell[string]
	check(t, "zero", &c, "", 0)
	if c.Load() != "" {
		t.Error("Load")
	}
	if c.CAS("x", "y") || !c.CAS("", "a") {
		t.Error("CAS")
	}
	check(t, "CAS", &c, "a", 3)
	if c.Swap("b") != "a" {
		t.Error("Swap")
	}
	c.Store("c")
	check(t, "Store", &c, "c", 5)
	check(t, "a zero cell of bools", new(Cell[bool]), false, 0)
	check(t, "a zero cell of pointers", new(Cell[*int]), nil, 0)
	check(t, "a zero cell of arrays", new(Cell[[2]string]), [2]string{}, 0)
}

// P4.1: cells have values and counts of their own.
func TestCellsOnTheirOwn(t *testing.T) {
	a, b := New(1), New(1)
	a.Store(2)
	a.Load()
	if !b.CAS(1, 9) {
		t.Error("CAS of the other one")
	}
	check(t, "one", a, 2, 2)
	check(t, "other", b, 9, 1)
}

// P4.1: cells of texts, of any bytes, the empty one and long ones.
func TestCellOfTexts(t *testing.T) {
	long := strings.Repeat("a", 1<<16)
	texts := []string{"", "a", "a\x00", "\xff", "A", long, long + "b"}
	for _, x := range texts {
		for _, y := range texts {
			c := New(x)
			if c.CAS(y, "set") != (x == y) {
				t.Fatalf("CAS of %q at %q", y, x)
			}
			if x == y {
				check(t, "set", c, "set", 1)
			} else {
				check(t, "not set", c, x, 1)
			}
		}
	}
}

// P4.1: structs and arrays are compared by what they have, pointers by what they point to itself.
func TestCellOfOtherTypes(t *testing.T) {
	type version struct {
		number int
		name   string
	}
	s := New(version{1, "a"})
	if s.CAS(version{1, "b"}, version{}) || s.CAS(version{2, "a"}, version{}) || !s.CAS(version{1, "a"}, version{2, "c"}) {
		t.Error("structs")
	}
	check(t, "structs", s, version{2, "c"}, 3)
	a := New([2]int{1, 2})
	if a.CAS([2]int{2, 1}, [2]int{}) || !a.CAS([2]int{1, 2}, [2]int{3, 4}) || a.Swap([2]int{5, 6}) != [2]int{3, 4} {
		t.Error("arrays")
	}
	check(t, "arrays", a, [2]int{5, 6}, 3)
	one, other := &version{1, "a"}, &version{1, "a"}
	p := New(one)
	if p.CAS(other, nil) || p.CAS(nil, other) || !p.CAS(one, nil) || !p.CAS(nil, other) || p.Load() != other {
		t.Error("pointers")
	}
	check(t, "pointers", p, other, 5)
	b := New(uint8(255))
	if b.CAS(0, 1) || !b.CAS(255, 0) || b.Swap(128) != 0 {
		t.Error("bytes")
	}
	check(t, "bytes", b, 128, 3)
	c := New(New(3))
	c.Load().Store(4)
	if c.Count() != 1 || c.Peek().Count() != 1 || c.Peek().Peek() != 4 {
		t.Error("a cell in a cell")
	}
}

// P4.1: what a cell points to is told as itself, not as a copy.
func TestPointersAreTheSame(t *testing.T) {
	x := 1
	c := New(&x)
	*c.Load() = 2
	if x != 2 || *c.Peek() != 2 || *c.Swap(nil) != 2 || c.Peek() != nil {
		t.Error(x)
	}
}

// P4.1: interfaces are compared by type and value, nil ones too.
func TestCellOfInterfaces(t *testing.T) {
	c := New[any](nil)
	if c.CAS(0, 1) || !c.CAS(nil, 1) || c.CAS(int8(1), 2) || c.CAS("1", 2) || c.CAS(nil, 2) || !c.CAS(1, "a") || !c.CAS("a", nil) {
		t.Error("any")
	}
	check(t, "any", c, nil, 7)
	one, other := errors.New("a"), errors.New("a")
	e := New(one)
	if e.CAS(nil, other) || e.CAS(other, nil) || !e.CAS(one, nil) || !e.CAS(nil, other) || e.Swap(nil) != other {
		t.Error("errors")
	}
	check(t, "errors", e, nil, 5)
}

// P1: what an interface holds may be of a type that can't be compared: no call panics, it is equal to none, and the cell stays as it was.
func TestWhatCannotBeCompared(t *testing.T) {
	list := []int{1}
	for _, x := range []any{list, map[int]int{}, func() {}, struct{ l []int }{list}, [1]any{list}} {
		c := New(x)
		if c.CAS(x, 1) || c.CAS(1, 2) || c.CAS(nil, 2) {
			t.Fatalf("CAS at %T: true", x)
		}
		if c.Count() != 3 || c.Load() == nil || c.Peek() == nil || c.Swap(5) == nil {
			t.Fatalf("%T: Count %d, or the value is gone", x, c.Count())
		}
		check(t, "Swap", c, 5, 5)
		if c.CAS(x, 6) {
			t.Fatalf("CAS with %T: true", x)
		}
		if !c.CAS(5, x) || c.Count() != 7 || c.Peek() == nil {
			t.Fatalf("CAS to %T: false", x)
		}
		c.Store(nil)
		check(t, "Store", c, nil, 8)
	}
}

// P4.1: values are held against each other by ==: 0 is -0, and NaN isn't like itself.
func TestCellOfFloats(t *testing.T) {
	c := New(math.Copysign(0, -1))
	if !c.CAS(0, math.NaN()) || c.CAS(math.NaN(), 1) || !math.IsNaN(c.Peek()) || c.Count() != 2 {
		t.Error(c.Peek(), c.Count())
	}
	if !math.IsNaN(c.Swap(1.5)) || !c.CAS(1.5, math.Inf(1)) {
		t.Error(c.Peek())
	}
	check(t, "floats", c, math.Inf(1), 4)
}

// P4.1: many accesses are counted, each once.
func TestManyAccesses(t *testing.T) {
	const n = 1 << 16
	c := New(0)
	for i := range n {
		if !c.CAS(i, i+1) || c.CAS(i, i) || c.Load() != i+1 {
			t.Fatal(i, c.Peek())
		}
	}
	check(t, "many", c, n, 3*n)
}

// P4.1: the chapter's example.
func TestExample(t *testing.T) {
	c := New(1)
	if !c.CAS(1, 2) || c.CAS(1, 3) || c.Peek() != 2 {
		t.Error(c.Peek())
	}
}
