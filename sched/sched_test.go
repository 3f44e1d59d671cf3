package sched

import (
	"math"
	"slices"
	"testing"

	"bellman/api"
)

// limit is how many moves a run may have, as the chapter says it.
const limit = 65536

// yes is a deed that is never blocked, no is one that always is.
func yes() bool { return true }
func no() bool  { return false }

// steps tells a thread of n steps, none of which is blocked.
func steps(n int) Step {
	if n == 0 {
		return nil
	}
	return func() (Step, bool) { return steps(n - 1), true }
}

// forever is a thread that never ends.
func forever() (Step, bool) { return forever, true }

// stuck is a thread that is always blocked.
func stuck() (Step, bool) { return nil, false }

// later tells a deed that is blocked n times, and then never again.
func later(n int) func() bool {
	return func() bool {
		n--
		return n < 0
	}
}

// check holds a trace against what it is to be.
func check(t *testing.T, what string, got Trace, moves []int, calls int, err api.Errno) {
	t.Helper()
	if !slices.Equal(got.Moves, moves) || got.Calls != calls || got.Error != err {
		t.Fatalf("%s: moves %v calls %d error %d, want %v %d %d", what, got.Moves, got.Calls, got.Error, moves, calls, err)
	}
}

// checkMany holds a trace of many moves against how many there are to be of each thread.
func checkMany(t *testing.T, what string, got Trace, each []int, calls int, err api.Errno) {
	t.Helper()
	counts := make([]int, len(each))
	for _, thread := range got.Moves {
		counts[thread]++
	}
	if !slices.Equal(counts, each) || got.Calls != calls || got.Error != err {
		t.Fatalf("%s: moves of each %v calls %d error %d, want %v %d %d", what, counts, got.Calls, got.Error, each, calls, err)
	}
}

// P6.1: ordinary runs: the picks first, then round and round from thread 0 on.
func TestRun(t *testing.T) {
	for _, x := range []struct {
		what    string
		picks   []int
		lengths []int
		moves   []int
	}{
		{"the chapter's example", nil, []int{2, 2}, []int{0, 1, 0, 1}},
		{"one thread", nil, []int{3}, []int{0, 0, 0}},
		{"rounds of unlike lengths", nil, []int{1, 3, 2}, []int{0, 1, 2, 1, 2, 1}},
		{"one pick, and the round begins at 0", []int{1}, []int{2, 2}, []int{1, 0, 1, 0}},
		{"picks in any order", []int{2, 0, 2, 1}, []int{2, 2, 3}, []int{2, 0, 2, 1, 0, 1, 2}},
		{"picks of all steps", []int{1, 0, 1, 0}, []int{2, 2}, []int{1, 0, 1, 0}},
		{"more picks than steps", []int{1, 1, 1, 1, 0, 0, 0}, []int{2, 2}, []int{1, 1, 0, 0}},
		{"finished by picks while others are not", []int{0, 0, 0, 1}, []int{1, 3}, []int{0, 1, 1, 1}},
		{"a thread that is finished, in the midst", nil, []int{2, 0, 2}, []int{0, 2, 0, 2}},
	} {
		threads := []Step{}
		for _, n := range x.lengths {
			threads = append(threads, steps(n))
		}
		check(t, x.what, Run(x.picks, threads...), x.moves, len(x.moves), api.OK)
	}
}

// P6.1: what the steps do is done in the order of the moves, each once.
func TestDeedsInTheOrderOfMoves(t *testing.T) {
	var done []string
	deed := func(name string) func() bool {
		return func() bool {
			done = append(done, name)
			return true
		}
	}
	got := Run([]int{1, 1, 0}, Chain(deed("a"), deed("b"), deed("c")), Chain(deed("x"), deed("y"), deed("z")))
	check(t, "deeds", got, []int{1, 1, 0, 0, 1, 0}, 6, api.OK)
	if !slices.Equal(done, []string{"x", "y", "a", "b", "z", "c"}) {
		t.Fatal(done)
	}
}

// P6.1: a pick of a thread that isn't there calls nothing.
func TestPicksOfThreadsThatArentThere(t *testing.T) {
	for _, pick := range []int{-1, -2, 2, 3, 9, 1 << 32, 1<<32 + 1, -1 << 32, math.MaxInt, math.MinInt, math.MinInt + 1} {
		check(t, "not there", Run([]int{pick, 1, pick, pick, 1, pick}, steps(2), steps(2)), []int{1, 1, 0, 0}, 4, api.OK)
		check(t, "not there", Run([]int{pick}), nil, 0, api.OK)
		check(t, "not there", Run([]int{pick}, nil), nil, 0, api.OK)
	}
}

// P6.1: a pick of a thread that is finished calls nothing, be it nil from its beginning or finished by picks.
func TestPicksOfThreadsThatAreFinished(t *testing.T) {
	check(t, "finished by picks", Run([]int{0, 0, 0, 1, 0}, steps(1), steps(2)), []int{0, 1, 1}, 3, api.OK)
	check(t, "nil", Run([]int{1, 1, 0, 1}, steps(2), nil), []int{0, 0}, 2, api.OK)
	check(t, "all are finished", Run([]int{0, 1, 0, 1, 0, 1}, steps(1), steps(1)), []int{0, 1}, 2, api.OK)
	check(t, "one is stuck", Run([]int{0, 0, 1, 0}, steps(1), stuck), []int{0}, 3, api.ErrStuck)
}

// P6.1: a pick of a blocked thread calls its step once, which is no move, and the same step is called again.
func TestPicksOfThreadsThatAreBlocked(t *testing.T) {
	check(t, "comes on by picks", Run([]int{0, 0, 0, 0}, Chain(later(2), yes)), []int{0, 0}, 4, api.OK)
	check(t, "comes on in the round", Run([]int{0}, Chain(later(1), yes)), []int{0, 0}, 3, api.OK)
	check(t, "others move", Run([]int{0, 0, 1, 0, 0}, Chain(later(3), yes), steps(2)), []int{1, 0, 0, 1}, 7, api.OK)
	check(t, "picks alone without a move don't end it", Run([]int{0, 0, 0, 0, 0, 0}, Chain(later(6))), []int{0}, 7, api.OK)
	check(t, "blocked for good", Run([]int{0, 0, 0}, stuck), nil, 4, api.ErrStuck)
}

// P6.1: what is told beside false isn't looked at: a blocked step is the next one still.
func TestBlockedStepStays(t *testing.T) {
	calls, other := 0, 0
	wrong := func() (Step, bool) {
		other++
		return nil, true
	}
	blocked := func() (Step, bool) {
		calls++
		if calls == 1 {
			return wrong, false
		}
		return nil, calls == 3
	}
	got := Run([]int{0, 0}, blocked)
	check(t, "blocked", got, []int{0}, 3, api.OK)
	if calls != 3 || other != 0 {
		t.Fatal(calls, other)
	}
}

// P6.1: a thread may wait for another one, and comes on when that one has moved, in the same round or in the next.
func TestThreadsThatWaitForEachOther(t *testing.T) {
	waits := func(turns *int, n int) func() bool {
		return func() bool {
			if *turns != n {
				return false
			}
			*turns++
			return true
		}
	}
	turns := 0
	got := Run(nil, Chain(waits(&turns, 1), waits(&turns, 3)), Chain(waits(&turns, 0), waits(&turns, 2)))
	check(t, "turns", got, []int{1, 0, 1, 0}, 5, api.OK)

	turns = 0
	got = Run([]int{0, 0, 1, 1}, Chain(waits(&turns, 1)), Chain(waits(&turns, 0), waits(&turns, 2)))
	check(t, "turns with picks", got, []int{1, 0, 1}, 6, api.OK)

	turns = 0
	got = Run(nil, Chain(waits(&turns, 2)), Chain(waits(&turns, 1)), Chain(waits(&turns, 0)))
	check(t, "turns from the last to the first", got, []int{2, 1, 0}, 6, api.OK)
}

// P6.1: a lock that several threads try: one at a time is between its try and its free.
func TestThreadsWithALock(t *testing.T) {
	held, within, sum := false, 0, 0
	thread := func() Step {
		was := 0
		return Chain(func() bool {
			if held {
				return false
			}
			held = true
			within++
			return true
		}, func() bool {
			was = sum
			return within == 1
		}, func() bool {
			sum = was + 1
			return true
		}, func() bool {
			held = false
			within--
			return true
		})
	}
	got := Run([]int{0, 1, 2, 0, 1, 2, 1, 1}, thread(), thread(), thread())
	if sum != 3 || got.Error != api.OK || len(got.Moves) != 12 || got.Calls <= 12 {
		t.Fatal(sum, got)
	}
}

// P6.1: threads that are stuck: one round without a move ends it, with what was moved and called up to there.
func TestStuck(t *testing.T) {
	check(t, "one", Run(nil, stuck), nil, 1, api.ErrStuck)
	check(t, "two", Run(nil, stuck, stuck), nil, 2, api.ErrStuck)
	check(t, "some are finished", Run(nil, stuck, nil, steps(2), stuck), []int{2, 2}, 2+4+2, api.ErrStuck)
	check(t, "behind some moves", Run(nil, Chain(yes, yes, no, yes), steps(1)), []int{0, 1, 0}, 4, api.ErrStuck)
	check(t, "the last one moves in the last round", Run(nil, Chain(yes, no), Chain(yes, yes, yes)), []int{0, 1, 1, 1}, 2+2+2+1, api.ErrStuck)
	check(t, "picks that move, and a round that doesn't", Run([]int{0, 0}, Chain(yes, yes, no)), []int{0, 0}, 3, api.ErrStuck)
	check(t, "picks of others that are finished", Run([]int{1}, stuck, steps(1)), []int{1}, 2, api.ErrStuck)
	check(t, "would come on one round later", Run(nil, Chain(later(1))), nil, 1, api.ErrStuck)
}

// P6.1: each waits for what the other one holds.
func TestStuckByEachOther(t *testing.T) {
	held := [2]bool{}
	try := func(place int) func() bool {
		return func() bool {
			if held[place] {
				return false
			}
			held[place] = true
			return true
		}
	}
	check(t, "crosswise", Run(nil, Chain(try(0), try(1)), Chain(try(1), try(0))), []int{0, 1}, 4, api.ErrStuck)
}

// P6.1: nil threads are finished; where all are, or none is there, nothing is called.
func TestNoThreads(t *testing.T) {
	check(t, "none", Run(nil), nil, 0, api.OK)
	check(t, "none, of an empty list", Run([]int{}, []Step{}...), nil, 0, api.OK)
	check(t, "none, with picks", Run([]int{0, 1, -1}), nil, 0, api.OK)
	check(t, "one nil", Run(nil, nil), nil, 0, api.OK)
	check(t, "nil ones, with picks", Run([]int{0, 1, 2, 3}, nil, nil, nil), nil, 0, api.OK)
	check(t, "nil ones among others", Run([]int{2, 0}, nil, steps(1), nil, steps(2), nil), []int{1, 3, 3}, 3, api.OK)
	check(t, "chains of none", Run([]int{0}, Chain(), Chain(nil, nil), steps(1)), []int{2}, 1, api.OK)
}

// P6.1: a thread that never ends is ended at once by the last move that a run may have.
func TestThreadThatNeverEnds(t *testing.T) {
	checkMany(t, "alone", Run(nil, forever), []int{limit}, limit, api.ErrStuck)
	checkMany(t, "two", Run(nil, forever, forever), []int{limit / 2, limit / 2}, limit, api.ErrStuck)
	checkMany(t, "in the midst of a round", Run(nil, forever, forever, forever), []int{limit/3 + 1, limit / 3, limit / 3}, limit, api.ErrStuck)
	checkMany(t, "with one that ends", Run(nil, steps(5), forever), []int{5, limit - 5}, limit, api.ErrStuck)
	// Of each round two calls, of which one is a move; behind the last move no call comes.
	checkMany(t, "ahead of a blocked one", Run(nil, forever, stuck), []int{limit, 0}, 2*limit-1, api.ErrStuck)
	checkMany(t, "behind a blocked one", Run(nil, stuck, forever), []int{0, limit}, 2*limit, api.ErrStuck)
}

// P6.1: the moves of the picks are counted with those of the rounds, and the picks behind the last move call nothing.
func TestPicksOfAThreadThatNeverEnds(t *testing.T) {
	picks := slices.Repeat([]int{1}, limit+100)
	checkMany(t, "picks alone", Run(picks, steps(1), forever), []int{0, limit}, limit, api.ErrStuck)
	checkMany(t, "as many picks as moves", Run(picks[:limit], steps(1), forever), []int{0, limit}, limit, api.ErrStuck)
	checkMany(t, "one pick less", Run(picks[:limit-1], steps(1), forever), []int{1, limit - 1}, limit, api.ErrStuck)
	checkMany(t, "two picks less", Run(picks[:limit-2], steps(1), forever), []int{1, limit - 1}, limit, api.ErrStuck)
	// Blocked picks and such of no thread are no moves.
	checkMany(t, "blocked picks", Run(picks, forever, stuck), []int{limit, 0}, limit+100+2*limit-1, api.ErrStuck)
	checkMany(t, "picks of none", Run(picks, forever), []int{limit}, limit, api.ErrStuck)
}

// P6.1: as many moves as a run may have are no error if all are finished by them; one that is left makes it one.
func TestTheLastMove(t *testing.T) {
	picks := slices.Repeat([]int{0}, limit+1)
	for _, p := range [][]int{nil, {0}, picks[:limit-1], picks[:limit], picks} {
		checkMany(t, "one less", Run(p, steps(limit-1)), []int{limit - 1}, limit-1, api.OK)
		checkMany(t, "all", Run(p, steps(limit)), []int{limit}, limit, api.OK)
		checkMany(t, "one more", Run(p, steps(limit+1)), []int{limit}, limit, api.ErrStuck)
	}
	checkMany(t, "all of two", Run(nil, steps(limit/2), steps(limit/2)), []int{limit / 2, limit / 2}, limit, api.OK)
	checkMany(t, "all of one, while another is left", Run(picks[:limit], steps(limit), steps(1)), []int{limit, 0}, limit, api.ErrStuck)
	checkMany(t, "one is left", Run(nil, steps(limit/2), steps(limit/2+1)), []int{limit / 2, limit / 2}, limit, api.ErrStuck)
	checkMany(t, "blocked calls are no moves", Run(nil, Chain(later(9), yes), steps(limit-2)), []int{2, limit - 2}, limit+9, api.OK)
}

// planned is what the thread's next deed in all short runs waits for: that so many deeds were done by anyone.
type planned []int

// chainOf tells the thread that does what is planned, counting its deeds in done.
func (p planned) chainOf(done *int) Step {
	var deeds []func() bool
	for _, least := range p {
		deeds = append(deeds, func() bool {
			if *done < least {
				return false
			}
			*done++
			return true
		})
	}
	return Chain(deeds...)
}

// expected works a run out by the chapter's words, from numbers alone.
func expected(picks []int, plans []planned) Trace {
	var want Trace
	places := make([]int, len(plans))
	open := func() (n int) {
		for i, p := range plans {
			n += len(p) - places[i]
		}
		return n
	}
	call := func(i int) {
		if i < 0 || i >= len(plans) || places[i] == len(plans[i]) {
			return
		}
		want.Calls++
		if len(want.Moves) >= plans[i][places[i]] {
			want.Moves = append(want.Moves, i)
			places[i]++
		}
	}
	for _, i := range picks {
		call(i)
	}
	for open() > 0 {
		was := len(want.Moves)
		for i := range plans {
			call(i)
		}
		if len(want.Moves) == was {
			want.Error = api.ErrStuck
			break
		}
	}
	return want
}

// P6.1: all short rows of picks of threads that wait for each other, come on, or are stuck.
func TestAllShortRows(t *testing.T) {
	const longest = 5
	all := [][]planned{
		{},
		{{}},
		{{0}, {0}},
		{{0, 0}, {0, 0}, {}},
		{{1, 3}, {0, 2}},
		{{3}, {2}, {0, 0, 0}},
		{{0, 4}, {0, 0, 1}},
		{{2, 2}, {1}, {}},
		{{0, 5}, {0, 5}, {0}},
	}
	errors := map[api.Errno]int{}
	var row func(plans []planned, picks []int)
	row = func(plans []planned, picks []int) {
		done := 0
		var threads []Step
		for _, p := range plans {
			threads = append(threads, p.chainOf(&done))
		}
		want := expected(picks, plans)
		check(t, "a row", Run(picks, threads...), want.Moves, want.Calls, want.Error)
		errors[want.Error]++
		if len(picks) == longest {
			return
		}
		for pick := -1; pick <= 3; pick++ {
			row(plans, append(picks[:len(picks):len(picks)], pick))
		}
	}
	for _, plans := range all {
		row(plans, nil)
	}
	if errors[api.OK] == 0 || errors[api.ErrStuck] == 0 || len(errors) != 2 {
		t.Fatal(errors)
	}
}

// P6.1, R4: neither the picks nor the threads are changed, nor what lies behind them; what is told is the asker's.
func TestRunLeavesWhatItIsHanded(t *testing.T) {
	picks := []int{1, 0, 7, 8}
	threads := []Step{steps(2), steps(2), steps(9)}
	first := Run(picks[:2], threads[:2]...)
	for i := range first.Moves {
		first.Moves[i] = -1
	}
	check(t, "the same again", Run(picks[:2], threads[:2]...), []int{1, 0, 0, 1}, 4, api.OK)
	check(t, "all of it", Run(picks, threads...), []int{1, 0, 0, 1, 2, 2, 2, 2, 2, 2, 2, 2, 2}, 13, api.OK)
	if !slices.Equal(picks, []int{1, 0, 7, 8}) {
		t.Fatal(picks)
	}
	for i, step := range threads {
		if step == nil {
			t.Fatalf("thread %d", i)
		}
	}
}

// P6.1: a step may run threads of its own.
func TestRunWithinAStep(t *testing.T) {
	var inner Trace
	got := Run(nil, Chain(func() bool {
		inner = Run([]int{1}, steps(1), steps(2))
		return inner.Error == api.OK
	}, yes), steps(1))
	check(t, "inner", inner, []int{1, 0, 1}, 3, api.OK)
	check(t, "outer", got, []int{0, 1, 0}, 3, api.OK)
}

// P6.2: a chain does its functions in their order, one a step, each once, and is finished by the last.
func TestChain(t *testing.T) {
	for n := 1; n <= 5; n++ {
		var done []int
		var l []func() bool
		for i := range n {
			l = append(l, func() bool {
				done = append(done, i)
				return true
			})
		}
		step := Chain(l...)
		for i := range n {
			if step == nil || len(done) != i {
				t.Fatalf("of %d: finished or done ahead of step %d: %v", n, i, done)
			}
			next, moved := step()
			if !moved || len(done) != i+1 || done[i] != i {
				t.Fatalf("of %d: step %d: %v %v", n, i, moved, done)
			}
			step = next
		}
		if step != nil {
			t.Fatalf("of %d: not finished", n)
		}
	}
}

// P6.2: a function that tells false is blocked: the chain stands where it is till the function tells true.
func TestChainWithBlockedFunctions(t *testing.T) {
	last := 0
	step := Chain(later(2), yes, later(1), func() bool {
		last++
		return true
	})
	for i, want := range []bool{false, false, true, true, false, true, true} {
		next, moved := step()
		if moved != want || !moved && next != nil || last != i/6 {
			t.Fatalf("call %d: %v, nil %v, last %d", i, moved, next == nil, last)
		}
		if moved {
			step = next
		}
	}
	if step != nil {
		t.Fatal("not finished")
	}
	// Another thread makes the moves without which a round would end the run.
	check(t, "run", Run(nil, Chain(later(2), later(1), yes), steps(5)), []int{1, 1, 0, 1, 1, 0, 1, 0}, 11, api.OK)
	check(t, "never true", Run([]int{0, 0, 0}, Chain(yes, no, yes)), []int{0}, 4, api.ErrStuck)
}

// P6.2: nil functions are left out, wherever they stand, and are no steps.
func TestChainLeavesNilFunctionsOut(t *testing.T) {
	for _, l := range [][]func() bool{
		{nil, yes, yes},
		{yes, nil, yes},
		{yes, yes, nil},
		{nil, nil, yes, nil, nil, nil, yes, nil},
	} {
		check(t, "nil functions", Run(nil, Chain(l...)), []int{0, 0}, 2, api.OK)
	}
	check(t, "with blocked ones", Run([]int{0, 0, 0}, Chain(nil, later(1), nil, later(1), nil)), []int{0, 0}, 4, api.OK)
}

// P6.2: of none, or of nil functions alone, there is no step.
func TestChainOfNone(t *testing.T) {
	for _, l := range [][]func() bool{nil, {}, {nil}, {nil, nil, nil}, []func() bool{yes, yes}[:0]} {
		if Chain(l...) != nil {
			t.Fatalf("of %d functions, none of which is one: a step", len(l))
		}
	}
}

// P6.2, R4: the list is neither changed nor kept: what is written over it later isn't done.
func TestChainLeavesWhatItIsHanded(t *testing.T) {
	count := [3]int{}
	add := func(i int) func() bool {
		return func() bool {
			count[i]++
			return true
		}
	}
	l := []func() bool{nil, add(0), nil, add(1), add(2)}
	step := Chain(l[:4]...)
	for i := range 4 {
		if (l[i] == nil) != (i%2 == 0) {
			t.Fatalf("changed at %d", i)
		}
	}
	l[4]()
	if count != [3]int{0, 0, 1} {
		t.Fatal(count)
	}
	for i := range l {
		l[i] = add(2)
	}
	check(t, "written over", Run(nil, step), []int{0, 0}, 2, api.OK)
	if count != [3]int{1, 1, 1} {
		t.Fatal(count)
	}
	// A list of which nothing is left out isn't kept either, and not by the steps behind the first.
	l = []func() bool{add(0), add(0)}
	step, _ = Chain(l...)()
	l[0], l[1] = add(2), nil
	check(t, "written over in the midst", Run(nil, step), []int{0}, 1, api.OK)
	if count != [3]int{3, 1, 1} {
		t.Fatal(count)
	}
}

// P6.2: Chain does nothing itself, and its step may be begun as often as one likes, and by several threads.
func TestChainAgainAndAgain(t *testing.T) {
	var done []string
	deed := func(name string) func() bool {
		return func() bool {
			done = append(done, name)
			return true
		}
	}
	step := Chain(deed("a"), deed("b"))
	if done != nil {
		t.Fatal("done by Chain itself", done)
	}
	check(t, "two threads", Run([]int{1}, step, step), []int{1, 0, 1, 0}, 4, api.OK)
	check(t, "once more", Run(nil, step), []int{0, 0}, 2, api.OK)
	if !slices.Equal(done, []string{"a", "a", "b", "b", "a", "b"}) {
		t.Fatal(done)
	}
	first, _ := step()
	second, _ := step()
	for _, next := range []Step{first, second, first} {
		if end, moved := next(); end != nil || !moved {
			t.Fatal("the second step", moved)
		}
	}
	if !slices.Equal(done[6:], []string{"a", "a", "b", "b", "b"}) {
		t.Fatal(done)
	}
}

// P6.2: a chain of as many functions as a run may have moves is finished.
func TestLongChain(t *testing.T) {
	sum := 0
	add := func() bool {
		sum++
		return true
	}
	checkMany(t, "long", Run(nil, Chain(slices.Repeat([]func() bool{add}, limit)...)), []int{limit}, limit, api.OK)
	if sum != limit {
		t.Fatal(sum)
	}
	checkMany(t, "too long", Run(nil, Chain(slices.Repeat([]func() bool{add}, limit+1)...)), []int{limit}, limit, api.ErrStuck)
	if sum != 2*limit {
		t.Fatal(sum)
	}
}
