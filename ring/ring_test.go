package ring

import (
	"math"
	"slices"
	"strconv"
	"testing"
)

// noSlots are numbers that no slot has, however many there are.
var noSlots = []int{-1, -2, -1023, -1024, -1025, math.MinInt, math.MinInt + 1, 1024, 1025, 1 << 32, 1<<32 + 1, -1 << 32, math.MaxInt - 1, math.MaxInt}

// put puts one by one, each of which must go.
func put[T any](t *testing.T, r *Ring[T], l ...T) {
	t.Helper()
	for i, x := range l {
		if !r.Put(x) {
			t.Fatalf("Put %d: false", i)
		}
	}
}

// full tries to put, which mustn't go.
func full[T any](t *testing.T, r *Ring[T], x T) {
	t.Helper()
	if r.Put(x) {
		t.Fatal("Put into a full ring")
	}
}

// get gets one by one, and holds it against what is wanted.
func get[T comparable](t *testing.T, r *Ring[T], want ...T) {
	t.Helper()
	for _, x := range want {
		if got, ok := r.Get(); got != x || !ok {
			t.Fatalf("Get: %v, %v, want %v", got, ok, x)
		}
	}
}

// empties tries to get, which mustn't go.
func empties[T comparable](t *testing.T, r *Ring[T]) {
	t.Helper()
	var nothing T
	for range 2 {
		if got, ok := r.Get(); got != nothing || ok {
			t.Fatalf("Get from an empty ring: %v, %v", got, ok)
		}
	}
}

// check asks a ring all that may be asked, twice, as asking changes nothing: these are its slots' sequence numbers, its drops, and what is put and not got.
func check(t *testing.T, what string, r *Ring[string], sequences []int, drops int, held ...string) {
	t.Helper()
	for range 2 {
		if r.Cap() != len(sequences) || r.Len() != len(held) || r.Drops() != drops {
			t.Fatalf("%s: Cap %d, Len %d, Drops %d, want %d, %d, %d", what, r.Cap(), r.Len(), r.Drops(), len(sequences), len(held), drops)
		}
		for slot, want := range sequences {
			if got := r.Sequence(slot); got != want {
				t.Fatalf("%s: Sequence(%d) %d, want %d", what, slot, got, want)
			}
		}
		if got := slices.Collect(r.All()); !slices.Equal(got, held) {
			t.Fatalf("%s: All %q, want %q", what, got, held)
		}
	}
	for _, slot := range append([]int{len(sequences), len(sequences) + 1, -len(sequences) - 1, len(sequences) - 1<<32}, noSlots...) {
		if got := r.Sequence(slot); got != -1 {
			t.Fatalf("%s: Sequence(%d) %d, want -1", what, slot, got)
		}
	}
}

// numbers tells from up to, but not, to.
func numbers(from, to int) []int {
	var l []int
	for i := from; i < to; i++ {
		l = append(l, i)
	}
	return l
}

// ends are numbers of slots that are asked for, and how many there are to be.
var ends = []struct{ slots, want int }{
	{math.MinInt, 1}, {math.MinInt + 1, 1}, {-1 << 32, 1}, {5 - 1<<32, 1}, {-1024, 1}, {-2, 1}, {-1, 1},
	{0, 1}, {1, 1}, {2, 2}, {3, 3}, {4, 4}, {5, 5}, {16, 16}, {63, 63}, {64, 64}, {1000, 1000}, {1022, 1022}, {1023, 1023}, {1024, 1024},
	{1025, 1024}, {1026, 1024}, {2048, 1024}, {65536, 1024}, {1 << 32, 1024}, {1<<32 + 1, 1024}, {math.MaxInt, 1024},
}

// P11.1: as many slots as asked for, 1 below 1, 1,024 of more; the ring is empty, and each slot's sequence number is twice its place.
func TestNew(t *testing.T) {
	for _, x := range ends {
		r := New[string](x.slots)
		if r == nil {
			t.Fatalf("New(%d): nil", x.slots)
		}
		var sequences []int
		for place := range x.want {
			sequences = append(sequences, 2*place)
		}
		check(t, "New", r, sequences, 0)
		empties(t, r)
		check(t, "New and Get", r, sequences, 0)
	}
}

// P11.1: a ring takes as many as it has slots, no more; what is behind that is a drop each, and once all is got, as many go in again.
func TestFilled(t *testing.T) {
	for _, x := range ends {
		r := New[int](x.slots)
		for round := range 3 {
			all := numbers(round*5000, round*5000+x.want)
			for i, n := range all {
				put(t, r, n)
				if r.Len() != i+1 {
					t.Fatalf("New(%d), %d are put: Len %d", x.slots, i+1, r.Len())
				}
			}
			full(t, r, -1)
			full(t, r, -2)
			if r.Len() != x.want || r.Cap() != x.want || r.Drops() != 2*round+2 {
				t.Fatalf("New(%d): Len %d, Cap %d, Drops %d", x.slots, r.Len(), r.Cap(), r.Drops())
			}
			if !slices.Equal(slices.Collect(r.All()), all) {
				t.Fatalf("New(%d): All", x.slots)
			}
			get(t, r, all...)
			empties(t, r)
			if r.Len() != 0 || r.Cap() != x.want || r.Drops() != 2*round+2 {
				t.Fatalf("New(%d), got: Len %d, Cap %d, Drops %d", x.slots, r.Len(), r.Cap(), r.Drops())
			}
		}
	}
}

// P11.1: the chapter's example.
func TestExample(t *testing.T) {
	r := New[int](1)
	put(t, r, 1)
	full(t, r, 2)
	get(t, r, 1)
	if r.Drops() != 1 {
		t.Fatal(r.Drops())
	}
	empties(t, r)
}

// P11.1: each slot's sequence number behind every put and get, in a ring of one slot.
func TestSequencesOfOneSlot(t *testing.T) {
	r := New[string](1)
	check(t, "New", r, []int{0}, 0)
	put(t, r, "a")
	check(t, "Put", r, []int{1}, 0, "a")
	full(t, r, "b")
	check(t, "full", r, []int{1}, 1, "a")
	get(t, r, "a")
	check(t, "Get", r, []int{2}, 1)
	empties(t, r)
	check(t, "empty", r, []int{2}, 1)
	put(t, r, "c")
	check(t, "Put again", r, []int{3}, 1, "c")
	get(t, r, "c")
	check(t, "Get again", r, []int{4}, 1)
	for round := 2; round < 50; round++ {
		put(t, r, "d")
		check(t, "Put, later", r, []int{2*round + 1}, 1, "d")
		get(t, r, "d")
		check(t, "Get, later", r, []int{2*round + 2}, 1)
	}
}

// P11.1: the same in a ring of three slots: the tickets go round, and neither a put nor a get that doesn't go takes one.
func TestSequencesOfThreeSlots(t *testing.T) {
	r := New[string](3)
	check(t, "New", r, []int{0, 2, 4}, 0)
	put(t, r, "a")
	check(t, "0 is put", r, []int{1, 2, 4}, 0, "a")
	put(t, r, "b")
	check(t, "1 is put", r, []int{1, 3, 4}, 0, "a", "b")
	get(t, r, "a")
	check(t, "0 is got", r, []int{6, 3, 4}, 0, "b")
	put(t, r, "c")
	check(t, "2 is put", r, []int{6, 3, 5}, 0, "b", "c")
	put(t, r, "d")
	check(t, "3 is put", r, []int{7, 3, 5}, 0, "b", "c", "d")
	full(t, r, "x")
	full(t, r, "y")
	check(t, "full", r, []int{7, 3, 5}, 2, "b", "c", "d")
	get(t, r, "b")
	check(t, "1 is got", r, []int{7, 8, 5}, 2, "c", "d")
	put(t, r, "e")
	check(t, "4 is put", r, []int{7, 9, 5}, 2, "c", "d", "e")
	get(t, r, "c", "d")
	check(t, "2 and 3 are got", r, []int{12, 9, 10}, 2, "e")
	get(t, r, "e")
	check(t, "4 is got", r, []int{12, 14, 10}, 2)
	empties(t, r)
	check(t, "empty", r, []int{12, 14, 10}, 2)
	put(t, r, "f")
	check(t, "5 is put", r, []int{12, 14, 11}, 2, "f")
	put(t, r, "g", "h")
	check(t, "6 and 7 are put", r, []int{13, 15, 11}, 2, "f", "g", "h")
	full(t, r, "z")
	check(t, "full again", r, []int{13, 15, 11}, 3, "f", "g", "h")
	get(t, r, "f", "g", "h")
	check(t, "all are got", r, []int{18, 20, 16}, 3)
}

// P11.1: sequence numbers of the most slots there are, once the tickets have gone round.
func TestSequencesOfManySlots(t *testing.T) {
	const n = 1024
	r := New[int](n)
	for round := range 5 {
		for place := range n {
			put(t, r, place)
			if got, want := r.Sequence(place), 2*(round*n+place)+1; got != want {
				t.Fatalf("round %d, put: Sequence(%d) %d, want %d", round, place, got, want)
			}
		}
		for place := range n {
			get(t, r, place)
			if got, want := r.Sequence(place), 2*((round+1)*n+place); got != want {
				t.Fatalf("round %d, got: Sequence(%d) %d, want %d", round, place, got, want)
			}
		}
	}
}

// P11.1: a full ring stays as it is, but for one drop more each time; what was dropped never comes.
func TestFull(t *testing.T) {
	r := New[string](2)
	put(t, r, "a", "b")
	for drops := range 100 {
		check(t, "full", r, []int{1, 3}, drops, "a", "b")
		full(t, r, "x")
	}
	get(t, r, "a")
	put(t, r, "c")
	check(t, "full again", r, []int{5, 3}, 100, "b", "c")
	full(t, r, "y")
	check(t, "dropped again", r, []int{5, 3}, 101, "b", "c")
	get(t, r, "b", "c")
	empties(t, r)
	check(t, "empty", r, []int{8, 6}, 101)
}

// P11.1: an empty ring stays as it is, and there is no drop more; what is put behind that is put and got as ever.
func TestEmpty(t *testing.T) {
	r := New[string](2)
	for range 10 {
		empties(t, r)
		check(t, "empty", r, []int{0, 2}, 0)
	}
	put(t, r, "a")
	get(t, r, "a")
	for range 10 {
		empties(t, r)
		check(t, "empty again", r, []int{4, 2}, 0)
	}
	put(t, r, "b", "c")
	full(t, r, "d")
	check(t, "full", r, []int{5, 3}, 1, "b", "c")
}

// P11.1: a zero value that is put is put as others are; true tells it from nothing.
func TestZeroValues(t *testing.T) {
	r := New[string](2)
	put(t, r, "", "")
	check(t, "zero values", r, []int{1, 3}, 0, "", "")
	full(t, r, "")
	get(t, r, "")
	check(t, "one is got", r, []int{4, 3}, 1, "")
	get(t, r, "")
	empties(t, r)
	check(t, "both are got", r, []int{4, 6}, 1)
}

// P11.1: there is no slot below 0 nor behind the last one, whatever was put and got.
func TestNoSlot(t *testing.T) {
	for _, n := range []int{1, 2, 7, 1023, 1024} {
		r := New[int](n)
		for i := range 3*n + 1 {
			r.Put(i)
			if i > n {
				r.Get()
			}
			for _, slot := range append([]int{n, n + 1, 2 * n, -n, n + 1<<32}, noSlots...) {
				if got := r.Sequence(slot); got != -1 {
					t.Fatalf("%d slots: Sequence(%d) %d", n, slot, got)
				}
			}
			if r.Sequence(0) == -1 || r.Sequence(n-1) == -1 {
				t.Fatalf("%d slots: the first or the last one isn't there", n)
			}
		}
	}
}

// P11.1: All has its order also where the tickets went round: at each place, and with each number of those that are put and not got.
func TestAllGoesRound(t *testing.T) {
	for _, n := range []int{1, 2, 3, 8} {
		for begin := range 2*n + 1 {
			r := New[int](n)
			for i := range begin {
				put(t, r, i)
				get(t, r, i)
			}
			for length := range n + 1 {
				if got := slices.Collect(r.All()); !slices.Equal(got, numbers(0, length)) {
					t.Fatalf("%d slots, %d were got: All %v", n, begin, got)
				}
				if length < n {
					put(t, r, length)
				}
			}
		}
	}
}

// P11.1: All begins anew each time, may be ended at each place, and nothing is got by it.
func TestAllAgain(t *testing.T) {
	r := New[string](4)
	put(t, r, "x", "y", "a", "b")
	get(t, r, "x", "y")
	put(t, r, "c")
	sequences := []int{9, 10, 5, 7}
	held := []string{"a", "b", "c"}
	all := r.All()
	for steps := range len(held) + 1 {
		var seen []string
		for x := range all {
			if len(seen) == steps {
				break
			}
			seen = append(seen, x)
		}
		if !slices.Equal(seen, held[:steps]) {
			t.Fatalf("ended behind %d: %q", steps, seen)
		}
		check(t, "ended early", r, sequences, 0, held...)
	}
	var nested string
	for x := range all {
		for y := range all {
			nested += x + y + " "
			if x == y {
				break
			}
		}
	}
	if nested != "aa ba bb ca cb cc " {
		t.Fatal(nested)
	}
	check(t, "nested", r, sequences, 0, held...)
	get(t, r, held...)
	empties(t, r)
}

// P11.1: a range that is ended isn't gone on with.
func TestAllEnds(t *testing.T) {
	r := New[int](5)
	put(t, r, numbers(0, 5)...)
	for most := 1; most < 8; most++ {
		called := 0
		r.All()(func(x int) bool {
			if x != called {
				t.Fatalf("%d, want %d", x, called)
			}
			called++
			return called < most
		})
		if called != min(most, 5) {
			t.Fatalf("ended behind %d: %d", most, called)
		}
	}
}

// P11.1: of an empty ring All tells none, be it a new one or one of which all was got.
func TestAllOfNone(t *testing.T) {
	r := New[int](2)
	for range 5 {
		if r.All() == nil {
			t.Fatal("a range that is nil")
		}
		for x := range r.All() {
			t.Fatal(x)
		}
		put(t, r, 1, 2)
		get(t, r, 1, 2)
	}
}

// P1, P11.1: what is put and got while a ring is ranged over is put and got.
func TestChangesWithinRanges(t *testing.T) {
	r := New[string](2)
	put(t, r, "a", "b")
	first, rounds := "", 0
	for x := range r.All() {
		if rounds == 0 {
			first = x
			full(t, r, "x")
			get(t, r, "a")
			put(t, r, "c")
		}
		rounds++
		if rounds == 10 {
			break
		}
	}
	if first != "a" {
		t.Fatal(first)
	}
	check(t, "put and got", r, []int{5, 3}, 1, "b", "c")
	for range r.All() {
		r.Get()
	}
	for range r.All() {
		r.Get()
	}
	check(t, "all is got", r, []int{8, 6}, 1)
}

// R4: what All told is the asker's.
func TestToldAndWrittenOver(t *testing.T) {
	r := New[string](2)
	put(t, r, "a", "b")
	told := slices.Collect(r.All())
	clear(told)
	told = append(told, "c")
	check(t, "written over", r, []int{1, 3}, 0, "a", "b")
	get(t, r, "a")
	put(t, r, "d")
	if !slices.Equal(told, []string{"", "", "c"}) {
		t.Fatal(told)
	}
}

// P11.1: of a nil *Ring: false, 0, -1, none; nothing is done, also behind each call.
func TestNil(t *testing.T) {
	var r *Ring[string]
	for range 2 {
		full(t, r, "a")
		check(t, "Put", r, nil, 0)
		empties(t, r)
		check(t, "Get", r, nil, 0)
		if r.All() == nil {
			t.Fatal("a range that is nil")
		}
		for range r.All() {
			t.Fatal("All")
		}
		for slot := -2; slot < 3; slot++ {
			if got := r.Sequence(slot); got != -1 {
				t.Fatalf("Sequence(%d) %d", slot, got)
			}
		}
	}
	var n *Ring[int]
	full(t, n, 7)
	empties(t, n)
	if n.Len() != 0 || n.Cap() != 0 || n.Drops() != 0 {
		t.Fatal(n.Len(), n.Cap(), n.Drops())
	}
}

// message is a struct, as a ring may have them.
type message struct {
	topic string
	kept  bool
}

// P11.1: a ring is of any type, also of one whose values can't be compared; beside false stands its zero value.
func TestAnyType(t *testing.T) {
	lists := New[[]int](2)
	put(t, lists, []int{1, 2}, nil)
	full(t, lists, []int{3})
	if l, ok := lists.Get(); !slices.Equal(l, []int{1, 2}) || !ok {
		t.Error(l, ok)
	}
	if l, ok := lists.Get(); l != nil || !ok {
		t.Error(l, ok)
	}
	if l, ok := lists.Get(); l != nil || ok {
		t.Error(l, ok)
	}
	functions := New[func() int](1)
	put(t, functions, func() int { return 7 })
	if f, ok := functions.Get(); !ok || f() != 7 {
		t.Error(ok)
	}
	if f, ok := functions.Get(); f != nil || ok {
		t.Error("a function that isn't there")
	}
	messages := New[message](3)
	put(t, messages, message{"a", true}, message{"b", false})
	get(t, messages, message{"a", true}, message{"b", false})
	empties(t, messages)
	pointers := New[*message](1)
	m := &message{topic: "a"}
	put(t, pointers, m)
	m.kept = true
	get(t, pointers, m)
	empties(t, pointers)
	values := New[any](2)
	put(t, values, any(1), nil)
	get(t, values, any(1), nil)
	empties(t, values)
	nothings := New[struct{}](2)
	put(t, nothings, struct{}{}, struct{}{})
	full(t, nothings, struct{}{})
	get(t, nothings, struct{}{}, struct{}{})
	empties(t, nothings)
}

// P11.1: rings know nothing of each other.
func TestRingsOnTheirOwn(t *testing.T) {
	a, b := New[string](1), New[string](2)
	put(t, a, "a")
	full(t, a, "x")
	check(t, "other", b, []int{0, 2}, 0)
	put(t, b, "b")
	get(t, a, "a")
	check(t, "one", a, []int{2}, 1)
	check(t, "other again", b, []int{1, 2}, 0, "b")
}

// P11.2: what is got comes in the order in which it was put, each once, with a few held all the time, while the tickets go round again and again.
func TestOrder(t *testing.T) {
	for _, n := range []int{1, 2, 3, 5, 16, 1024} {
		for _, held := range []int{0, 1, n / 2, n - 1} {
			if held >= n {
				continue
			}
			r := New[int](n)
			put(t, r, numbers(0, held)...)
			for i := range 10*n + 100 {
				put(t, r, held+i)
				get(t, r, i)
			}
			if r.Len() != held || r.Drops() != 0 {
				t.Fatalf("%d slots, %d held: Len %d, Drops %d", n, held, r.Len(), r.Drops())
			}
		}
	}
}

// P11.2: what is alike is told as often as it was put.
func TestAlike(t *testing.T) {
	r := New[string](3)
	for range 10 {
		put(t, r, "a", "a", "b")
		full(t, r, "a")
		get(t, r, "a", "a")
		put(t, r, "b", "a")
		full(t, r, "b")
		get(t, r, "b", "b", "a")
		empties(t, r)
	}
}

// P11.2: filled by some, emptied by some, again and again: all that was put is got in its order, all else is counted.
func TestFilledAndEmptied(t *testing.T) {
	for _, n := range []int{1, 2, 3, 7, 64, 1024} {
		for _, step := range []int{1, 2, n - 1, n, n + 1, 2 * n} {
			r := New[int](n)
			var went, got []int
			next, drops := 0, 0
			for round := range 40 {
				for range step {
					if r.Put(next) {
						went = append(went, next)
					} else {
						drops++
					}
					next++
				}
				for range step - round%3 {
					if x, ok := r.Get(); ok {
						got = append(got, x)
					}
				}
			}
			for x, ok := r.Get(); ok; x, ok = r.Get() {
				got = append(got, x)
			}
			if !slices.Equal(went, got) || r.Drops() != drops || len(got)+drops != next {
				t.Fatalf("%d slots, steps of %d: %d went, %d were got, %d dropped of %d", n, step, len(went), len(got), r.Drops(), next)
			}
		}
	}
}

// words is what the chapter says, as plainly as it can be done: what is put and not got, and how often there was what.
type words struct {
	slots             int
	held              []string
	puts, gets, drops int
}

func (w *words) put(x string) bool {
	if len(w.held) == w.slots {
		w.drops++
		return false
	}
	w.held = append(w.held, x)
	w.puts++
	return true
}

func (w *words) get() (string, bool) {
	if len(w.held) == 0 {
		return "", false
	}
	x := w.held[0]
	w.held = w.held[1:]
	w.gets++
	return x, true
}

// sequence goes through the tickets of a slot, up to the first that wasn't put.
func (w *words) sequence(slot int) int {
	next := slot
	for next < w.puts {
		next += w.slots
	}
	if last := next - w.slots; last >= w.gets {
		return 2*last + 1
	}
	return 2 * next
}

// both does one deed on both, and holds the answers against each other.
func both(t *testing.T, r *Ring[string], w *words, puts bool, x string) {
	t.Helper()
	if puts {
		if got, want := r.Put(x), w.put(x); got != want {
			t.Fatalf("%d slots, Put(%s): %v, want %v", w.slots, x, got, want)
		}
		return
	}
	got, gotOK := r.Get()
	want, wantOK := w.get()
	if got != want || gotOK != wantOK {
		t.Fatalf("%d slots, Get: %q, %v, want %q, %v", w.slots, got, gotOK, want, wantOK)
	}
}

// checkBoth asks a ring all that may be asked, and holds it against the words.
func checkBoth(t *testing.T, r *Ring[string], w *words) {
	t.Helper()
	var sequences []int
	for slot := range w.slots {
		sequences = append(sequences, w.sequence(slot))
	}
	check(t, "both", r, sequences, w.drops, w.held...)
}

// P11.1, P11.2: all short rows of puts and gets, held against the chapter's words after each deed.
func TestAllShortRows(t *testing.T) {
	const long = 10
	for slots := 1; slots <= 4; slots++ {
		for row := range 1 << long {
			r, w := New[string](slots), &words{slots: slots}
			for i := range long {
				both(t, r, w, row>>i&1 == 1, strconv.Itoa(i))
				checkBoth(t, r, w)
			}
		}
	}
}

// P11.1, P11.2: long rows of puts and gets, with more of these and more of those in turn, held against the chapter's words.
func TestLongRows(t *testing.T) {
	const long = 2000
	for _, slots := range []int{1, 2, 3, 4, 7, 16, 100} {
		for seed := range 3 {
			r, w := New[string](slots), &words{slots: slots}
			next := uint64(seed*100 + slots)
			for i := range long {
				next = next*6364136223846793005 + 1442695040888963407
				both(t, r, w, int(next>>33)%8 < 2+i/250%5, strconv.Itoa(i))
				if i%7 == 0 || slots < 5 {
					checkBoth(t, r, w)
				}
			}
			checkBoth(t, r, w)
		}
	}
}

// R6: the same calls have the same answers.
func TestSameAgain(t *testing.T) {
	play := func() []int {
		r := New[int](5)
		var all []int
		for i := range 300 {
			if r.Put(i) {
				all = append(all, -1)
			}
			if i%3 != 0 || i%100 > 80 {
				x, _ := r.Get()
				all = append(all, x)
			}
			all = append(all, r.Len(), r.Drops(), r.Sequence(i%6))
			all = slices.AppendSeq(all, r.All())
		}
		return all
	}
	if !slices.Equal(play(), play()) {
		t.Fatal("another answer")
	}
}
