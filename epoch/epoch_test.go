package epoch

import (
	"math"
	"slices"
	"testing"
)

// noThreads are numbers that no thread has, however many there are.
var noThreads = []int{-1, -2, -63, -64, -65, math.MinInt, math.MinInt + 1, 64, 65, 128, 1 << 32, 1<<32 + 1, -1 << 32, math.MaxInt}

// check asks for the epoch and for how many wait, twice, as asking changes nothing.
func check(t *testing.T, what string, e *Epochs, now, waiting int) {
	t.Helper()
	for range 2 {
		if got := e.Now(); got != now {
			t.Fatalf("%s: Now %d, want %d", what, got, now)
		}
		if got := e.Waiting(); got != waiting {
			t.Fatalf("%s: Waiting %d, want %d", what, got, waiting)
		}
	}
}

// checkPinned asks of all numbers up to behind the last thread, and of others, whether they are pinned: those alone are.
func checkPinned(t *testing.T, what string, e *Epochs, pinned ...int) {
	t.Helper()
	for thread := -2; thread < 70; thread++ {
		if got := e.Pinned(thread); got != slices.Contains(pinned, thread) {
			t.Fatalf("%s: Pinned(%d) %v", what, thread, got)
		}
	}
	for _, thread := range noThreads {
		if e.Pinned(thread) {
			t.Fatalf("%s: Pinned(%d)", what, thread)
		}
	}
}

// advance advances the epoch, which must go, and holds what is told against what is wanted.
func advance(t *testing.T, e *Epochs, want ...int) {
	t.Helper()
	now, waiting := e.Now(), e.Waiting()
	got, ok := e.Advance()
	if !ok || !slices.Equal(got, want) {
		t.Fatalf("Advance at %d: %v %v, want %v", now, got, ok, want)
	}
	check(t, "Advance", e, now+1, waiting-len(want))
}

// stays tries to advance the epoch, which mustn't go.
func stays(t *testing.T, e *Epochs) {
	t.Helper()
	now, waiting := e.Now(), e.Waiting()
	for range 2 {
		if got, ok := e.Advance(); ok || len(got) != 0 {
			t.Fatalf("Advance at %d: %v %v, want none and false", now, got, ok)
		}
		check(t, "no Advance", e, now, waiting)
	}
}

// retire makes all these wait, one by one.
func retire(e *Epochs, l ...int) {
	for _, x := range l {
		e.Retire(x)
	}
}

// P9.1: as many threads as asked for, none below 0, 64 of more; none is pinned, nothing waits.
func TestNew(t *testing.T) {
	for _, x := range []struct{ threads, want int }{
		{math.MinInt, 0}, {-1 << 32, 0}, {-64, 0}, {-5, 0}, {-1, 0},
		{0, 0}, {1, 1}, {2, 2}, {4, 4}, {62, 62}, {63, 63}, {64, 64},
		{65, 64}, {66, 64}, {128, 64}, {1000, 64}, {1 << 32, 64}, {1<<32 + 1, 64}, {math.MaxInt, 64},
	} {
		e := New(x.threads)
		check(t, "New", e, 0, 0)
		checkPinned(t, "New", e)
		var pinned []int
		for thread := range 70 {
			if e.Pin(thread) {
				pinned = append(pinned, thread)
			}
			if want := thread < x.want; e.Pinned(thread) != want {
				t.Fatalf("New(%d): Pinned(%d) isn't %v", x.threads, thread, want)
			}
		}
		if len(pinned) != x.want {
			t.Fatalf("New(%d): %d threads", x.threads, len(pinned))
		}
		checkPinned(t, "all of them", e, pinned...)
		for _, thread := range pinned {
			if !e.Unpin(thread) {
				t.Fatalf("New(%d): Unpin(%d)", x.threads, thread)
			}
		}
		checkPinned(t, "none of them", e)
		check(t, "behind it", e, 0, 0)
	}
}

// P9.1: a thread that there isn't is neither pinned nor unpinned, and nothing changes by it.
func TestThreadsThatThereAreNot(t *testing.T) {
	for _, n := range []int{0, 1, 3, 64} {
		e := New(n)
		var pinned []int
		if n > 0 {
			e.Pin(n - 1)
			pinned = []int{n - 1}
		}
		e.Retire(1)
		for _, thread := range append([]int{n, n + 1, n + 1<<32, -n - 1}, noThreads...) {
			if e.Pin(thread) || e.Unpin(thread) || e.Pinned(thread) || e.Pin(thread) {
				t.Fatalf("a thread %d of %d", thread, n)
			}
			check(t, "no thread", e, 0, 1)
		}
		checkPinned(t, "no thread", e, pinned...)
	}
}

// P9.1: each thread is pinned and unpinned on its own; twice is false, and nothing changes by it.
func TestPinAndUnpin(t *testing.T) {
	e := New(3)
	for i, x := range []struct {
		unpin  bool
		thread int
		answer bool
		pinned []int
	}{
		{true, 0, false, nil},
		{false, 0, true, []int{0}},
		{false, 0, false, []int{0}},
		{true, 1, false, []int{0}},
		{false, 2, true, []int{0, 2}},
		{false, 2, false, []int{0, 2}},
		{true, 0, true, []int{2}},
		{true, 0, false, []int{2}},
		{false, 1, true, []int{1, 2}},
		{false, 0, true, []int{0, 1, 2}},
		{true, 2, true, []int{0, 1}},
		{true, 2, false, []int{0, 1}},
		{true, 1, true, []int{0}},
		{true, 0, true, nil},
		{true, 0, false, nil},
		{false, 0, true, []int{0}},
	} {
		got := false
		if x.unpin {
			got = e.Unpin(x.thread)
		} else {
			got = e.Pin(x.thread)
		}
		if got != x.answer {
			t.Fatalf("%d: %v at %d: %v", i, x.unpin, x.thread, got)
		}
		checkPinned(t, "behind it", e, x.pinned...)
		check(t, "behind it", e, 0, 0)
	}
}

// P9.1: pinned twice, a thread stays at the epoch at which it was pinned first; unpinned and pinned, it is at the new one.
func TestPinnedAtWhichEpoch(t *testing.T) {
	e := New(2)
	e.Pin(0)
	advance(t, e)
	if e.Pin(0) {
		t.Fatal("Pin of one that is pinned")
	}
	stays(t, e)
	if !e.Unpin(0) || !e.Pin(0) {
		t.Fatal("Unpin, Pin")
	}
	advance(t, e)
	stays(t, e)
	if e.Unpin(1) || e.Unpin(2) {
		t.Fatal("Unpin of one that isn't pinned")
	}
	stays(t, e)
	if !e.Unpin(0) || e.Unpin(0) {
		t.Fatal("Unpin")
	}
	advance(t, e)
}

// P9.1: what is retired waits: any number, once for each time, whoever is pinned.
func TestRetire(t *testing.T) {
	e := New(1)
	l := []int{0, -1, 7, 7, math.MaxInt, math.MinInt, 0, 1 << 32}
	for i, x := range l {
		e.Retire(x)
		check(t, "Retire", e, 0, i+1)
	}
	e.Pin(0)
	e.Retire(9)
	check(t, "Retire while pinned", e, 0, len(l)+1)
	checkPinned(t, "Retire", e, 0)
	e.Unpin(0)
	advance(t, e)
	advance(t, e)
	advance(t, e, append(l, 9)...)
}

// P9.1: Waiting has what waits with all epochs, and there may be much of it.
func TestMuchWaits(t *testing.T) {
	const n = 1 << 14
	e := New(0)
	var want [3][]int
	for epoch := range 3 {
		for i := range n {
			x := i*7 - epoch
			want[epoch] = append(want[epoch], x)
			e.Retire(x)
		}
		check(t, "much", e, epoch, (epoch+1)*n)
		if epoch < 2 {
			advance(t, e)
		}
	}
	for epoch := range 3 {
		advance(t, e, want[epoch]...)
	}
	check(t, "none", e, 5, 0)
}

// P9.1: those of one New know nothing of those of another.
func TestEpochsOnTheirOwn(t *testing.T) {
	a, b := New(2), New(2)
	a.Pin(0)
	a.Retire(1)
	advance(t, a)
	check(t, "other", b, 0, 0)
	checkPinned(t, "other", b)
	b.Retire(2)
	stays(t, a)
	advance(t, b)
	advance(t, b)
	advance(t, b, 2)
	check(t, "one", a, 1, 1)
	checkPinned(t, "one", a, 0)
}

// P9.2: the chapter's example.
func TestExample(t *testing.T) {
	e := New(1)
	e.Retire(7)
	advance(t, e)
	advance(t, e)
	advance(t, e, 7)
}

// P9.2: where nothing waits, nothing is told, and the epoch goes on.
func TestAdvanceOfNothing(t *testing.T) {
	e := New(0)
	for range 20 {
		advance(t, e)
	}
	check(t, "Advance", e, 20, 0)
}

// P9.2: a thread that is pinned at the epoch doesn't stand in the way, one that is pinned at another epoch does; any one of them is enough.
func TestPinnedInTheWay(t *testing.T) {
	for _, n := range []int{1, 2, 3, 64} {
		for thread := range n {
			e := New(n)
			advance(t, e)
			for other := range n {
				e.Pin(other)
			}
			e.Retire(thread)
			advance(t, e)
			stays(t, e)
			for other := range n {
				if other != thread {
					e.Unpin(other)
				}
			}
			stays(t, e)
			checkPinned(t, "in the way", e, thread)
			e.Unpin(thread)
			for other := range n {
				if other != thread {
					e.Pin(other)
				}
			}
			advance(t, e)
			for other := range n {
				e.Unpin(other)
			}
			advance(t, e, thread)
		}
	}
}

// P9.2: whatever the epoch at which a thread is pinned, it stands in the way of the second Advance, and of all behind it, till it is unpinned.
func TestPinnedAtLateEpochs(t *testing.T) {
	for late := range 12 {
		e := New(2)
		for range late {
			advance(t, e)
		}
		e.Pin(1)
		advance(t, e)
		for range 5 {
			stays(t, e)
		}
		e.Unpin(1)
		advance(t, e)
	}
}

// P9.2: what is retired while Advance is false waits with the epoch that is, and no longer than from there.
func TestRetiredWhileItStays(t *testing.T) {
	e := New(1)
	e.Pin(0)
	retire(e, 1, 2)
	advance(t, e)
	retire(e, 3)
	stays(t, e)
	retire(e, 4)
	stays(t, e)
	check(t, "stays", e, 1, 4)
	e.Unpin(0)
	retire(e, 5)
	advance(t, e)
	retire(e, 6)
	advance(t, e, 1, 2)
	advance(t, e, 3, 4, 5)
	advance(t, e, 6)
	check(t, "all told", e, 5, 0)
}

// P9.2: several things of one epoch and of several ones, in the order in which they were retired, neither sorted nor once each.
func TestOrderOfWhatIsTold(t *testing.T) {
	e := New(1)
	rows := [][]int{{5, 3, 9, 3}, {}, {2, 2, 1}, {-4, 8, -4, 0}, {7}, {}, {}, {6, 6, 5, 4, 6}, {math.MinInt, math.MaxInt}}
	want := [3][]int{}
	for epoch, row := range rows {
		retire(e, row...)
		slot := epoch % 3
		told := want[(epoch+1)%3]
		want[slot] = row
		advance(t, e, told...)
	}
	for i := range 3 {
		advance(t, e, want[(len(rows)+1+i)%3]...)
	}
	check(t, "all told", e, len(rows)+3, 0)
}

// P9.2, R4: a list that is told is the asker's: written over and lengthened, it changes nothing, and nothing changes it.
func TestToldAndWrittenOver(t *testing.T) {
	e := New(1)
	retire(e, 1, 2, 3)
	advance(t, e)
	retire(e, 4, 5, 6)
	advance(t, e)
	retire(e, 7, 8, 9)
	told, ok := e.Advance()
	if !ok || !slices.Equal(told, []int{1, 2, 3}) {
		t.Fatal(told, ok)
	}
	for i := range told {
		told[i] = -1
	}
	longer := append(told, -2, -3, -4, -5)
	check(t, "written over", e, 3, 6)
	retire(e, 10, 11, 12, 13, 14)
	if !slices.Equal(told, []int{-1, -1, -1}) || !slices.Equal(longer, []int{-1, -1, -1, -2, -3, -4, -5}) {
		t.Fatalf("Retire changed what was told: %v %v", told, longer)
	}
	for i := range longer {
		longer[i] = -6
	}
	advance(t, e, 4, 5, 6)
	advance(t, e, 7, 8, 9)
	advance(t, e, 10, 11, 12, 13, 14)
	check(t, "all told", e, 6, 0)
}

// P9.1, P9.2: of a nil *Epochs: false, none, 0; nothing is done, also behind each call.
func TestNil(t *testing.T) {
	var none *Epochs
	for range 2 {
		check(t, "nil", none, 0, 0)
		checkPinned(t, "nil", none)
		for _, thread := range append([]int{0, 1, 63}, noThreads...) {
			if none.Pin(thread) || none.Unpin(thread) || none.Pinned(thread) {
				t.Fatalf("a thread %d of nil", thread)
			}
		}
		retire(none, 1, -1, 0, math.MaxInt)
		stays(t, none)
		check(t, "nil", none, 0, 0)
	}
}

// P9.3: three Advances tell all that waits while no thread is pinned, whatever epochs it waits with, and however it came there.
func TestThreeAdvancesTellAll(t *testing.T) {
	for code := range 1 << 8 {
		e := New(2)
		var all []int
		for i := range 8 {
			if code>>i&1 == 0 {
				e.Retire(i)
				all = append(all, i)
			} else {
				e.Pin(i % 2)
				told, _ := e.Advance()
				all = all[len(told):]
				e.Unpin(i / 2 % 2)
			}
		}
		e.Unpin(0)
		e.Unpin(1)
		check(t, "ahead", e, e.Now(), len(all))
		var told []int
		for range 3 {
			l, ok := e.Advance()
			if !ok {
				t.Fatalf("%b: Advance while none is pinned", code)
			}
			told = append(told, l...)
		}
		if !slices.Equal(told, all) {
			t.Fatalf("%b: told %v, want %v", code, told, all)
		}
		check(t, "behind", e, e.Now(), 0)
	}
}

// P9.3: two Advances aren't enough for what one that is pinned now may have seen.
func TestNotTooEarly(t *testing.T) {
	e := New(2)
	e.Pin(0)
	advance(t, e)
	e.Pin(1)
	// 0 is pinned at the epoch 0, 1 at the epoch 1: both may have seen it.
	e.Retire(7)
	stays(t, e)
	e.Unpin(0)
	advance(t, e)
	stays(t, e)
	e.Unpin(1)
	advance(t, e)
	check(t, "both are gone", e, 3, 1)
	advance(t, e, 7)
}

// thing is what was retired, as the chapter's words have it.
type thing struct {
	x, epoch int
	// seers are the pinnings, by their numbers, that there were when it was retired.
	seers []int
}

// words is what the chapter says, as plainly as it can be done: a list of all that waits, with its epoch.
type words struct {
	threads, now, pinnings int
	// at and number are of the threads that are pinned: the epoch, and the pinning's own number.
	at, number map[int]int
	waits      []thing
}

func newWords(threads int) *words {
	return &words{threads: threads, at: map[int]int{}, number: map[int]int{}}
}

func (w *words) pin(thread int) bool {
	if _, ok := w.at[thread]; ok || thread < 0 || thread >= w.threads {
		return false
	}
	w.pinnings++
	w.at[thread], w.number[thread] = w.now, w.pinnings
	return true
}

func (w *words) unpin(thread int) bool {
	if _, ok := w.at[thread]; !ok {
		return false
	}
	delete(w.at, thread)
	delete(w.number, thread)
	return true
}

func (w *words) retire(x int) {
	one := thing{x: x, epoch: w.now}
	for _, number := range w.number {
		one.seers = append(one.seers, number)
	}
	w.waits = append(w.waits, one)
}

func (w *words) advance() ([]thing, bool) {
	for _, epoch := range w.at {
		if epoch != w.now {
			return nil, false
		}
	}
	w.now++
	var told, rest []thing
	for _, one := range w.waits {
		if w.now-one.epoch >= 3 {
			told = append(told, one)
		} else {
			rest = append(rest, one)
		}
	}
	w.waits = rest
	return told, true
}

// both does one deed, by its number, on both, and holds the answers against each other.
func both(t *testing.T, e *Epochs, w *words, deed, n int) {
	t.Helper()
	switch deed {
	case 0:
		if got, want := e.Pin(n), w.pin(n); got != want {
			t.Fatalf("Pin(%d): %v", n, got)
		}
	case 1:
		if got, want := e.Unpin(n), w.unpin(n); got != want {
			t.Fatalf("Unpin(%d): %v", n, got)
		}
	case 2:
		e.Retire(n)
		w.retire(n)
	default:
		bothAdvance(t, e, w)
	}
	check(t, "both", e, w.now, len(w.waits))
	for thread := -1; thread <= w.threads; thread++ {
		if _, want := w.at[thread]; e.Pinned(thread) != want {
			t.Fatalf("Pinned(%d) isn't %v", thread, want)
		}
	}
}

// bothAdvance advances both; of what is told, it looks for who is pinned at its epoch, and for a pinning that was there when it was retired and is there still.
func bothAdvance(t *testing.T, e *Epochs, w *words) {
	t.Helper()
	got, ok := e.Advance()
	things, want := w.advance()
	var told []int
	for _, one := range things {
		told = append(told, one.x)
		for thread, epoch := range w.at {
			if epoch == one.epoch || slices.Contains(one.seers, w.number[thread]) {
				t.Fatalf("%d, retired at %d, is told while %d is pinned at %d", one.x, one.epoch, thread, epoch)
			}
		}
	}
	if ok != want || !slices.Equal(got, told) {
		t.Fatalf("Advance: %v %v, want %v %v", got, ok, told, want)
	}
	for i := range got {
		got[i] = math.MinInt
	}
}

// P9.1 to P9.3: all short rows of deeds, held against the chapter's words.
func TestAllShortRows(t *testing.T) {
	const longest = 7
	type step struct{ deed, n int }
	all := []step{{0, 0}, {0, 1}, {1, 0}, {1, 1}, {2, 0}, {3, 0}}
	var row func(done []step)
	row = func(done []step) {
		if len(done) < longest {
			for _, s := range all {
				row(append(done[:len(done):len(done)], s))
			}
			return
		}
		e, w := New(2), newWords(2)
		for i, s := range done {
			if s.deed == 2 {
				s.n = i
			}
			both(t, e, w, s.deed, s.n)
		}
	}
	row(nil)
}

// P9.1 to P9.3: long rows of deeds, in which threads are pinned and unpinned in turn over many Advances, held against the chapter's words; then all is quiet, and three Advances tell all.
func TestLongRows(t *testing.T) {
	const long = 4000
	for _, threads := range []int{0, 1, 2, 4, 7, 64} {
		for seed := range 8 {
			e, w := New(threads), newWords(threads)
			next := uint64(seed*100 + threads + 1)
			for i := range long {
				next = next*6364136223846793005 + 1442695040888963407
				deed, n := int(next>>33)%5, int(next>>40)%(threads+2)-1
				if deed == 2 {
					n = i
				}
				both(t, e, w, deed, n)
			}
			for thread := range threads {
				both(t, e, w, 1, thread)
			}
			for range 3 {
				both(t, e, w, 3, 0)
			}
			check(t, "quiet", e, w.now, 0)
		}
	}
}

// P9.3: readers come and go, one by one, each over an Advance or two, so that there is always one that is pinned: what is retired is told all the same, each once, and none while one is pinned that saw it.
func TestReadersInTurn(t *testing.T) {
	const rounds = 3000
	e, w := New(3), newWords(3)
	both(t, e, w, 0, 0)
	for i := range rounds {
		both(t, e, w, 2, i)
		both(t, e, w, 3, 0)
		both(t, e, w, 0, (i+1)%3)
		both(t, e, w, 2, -i)
		both(t, e, w, 3, 0)
		both(t, e, w, 1, i%3)
	}
	if e.Now() < rounds {
		t.Fatalf("the epoch is %d only", e.Now())
	}
	if e.Waiting() > 3*2*2 {
		t.Fatalf("%d wait still", e.Waiting())
	}
}

// R6: the same calls have the same answers.
func TestSameAgain(t *testing.T) {
	play := func() []int {
		e := New(2)
		var all []int
		for i := range 200 {
			e.Retire(i)
			if i%3 == 0 {
				e.Pin(i % 2)
			}
			told, ok := e.Advance()
			if !ok {
				e.Unpin(0)
				e.Unpin(1)
			}
			all = append(append(all, told...), -e.Waiting())
		}
		return all
	}
	if !slices.Equal(play(), play()) {
		t.Fatal("another answer")
	}
}
