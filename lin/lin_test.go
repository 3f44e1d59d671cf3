package lin

import (
	"math"
	"slices"
	"strconv"
	"strings"
	"testing"

	"bellman/api"
)

// Kinds of the machines' operations: a write sets what a register has to Sub, a read tells it, an add makes a counter one more and tells it.
const (
	write = iota + 1
	read
	add
)

// register has one number.
func register() Machine[int] {
	return Machine[int]{
		Do: func(s int, x api.Op) (int, api.Answer) {
			switch x.Kind {
			case write:
				return x.Sub, api.Answer{}
			case add:
				return s + 1, api.Answer{A: s + 1}
			}
			return s, api.Answer{A: s}
		},
		Key: strconv.Itoa,
	}
}

// row has all that was asked of it; every operation answers how many there were ahead.
func row() Machine[[]string] {
	return Machine[[]string]{
		Do: func(s []string, x api.Op) ([]string, api.Answer) {
			return append(s[:len(s):len(s)], x.Text), api.Answer{A: len(s)}
		},
		Key: func(s []string) string { return strings.Join(s, ",") },
	}
}

// mute has no state, and answers nothing: all that stands in the way of an order is time.
func mute() Machine[struct{}] {
	return Machine[struct{}]{
		Do:  func(s struct{}, x api.Op) (struct{}, api.Answer) { return s, api.Answer{} },
		Key: func(struct{}) string { return "" },
	}
}

// call tells a call of that kind: n is what is written, or what is answered.
func call(kind, n, from, to int) api.Call {
	c := api.Call{Op: api.Op{Kind: kind}, From: from, To: to}
	if kind == write {
		c.Op.Sub = n
	} else {
		c.Answer.A = n
	}
	return c
}

// span tells a call of which nothing counts but its moments.
func span(from, to int) api.Call {
	return api.Call{From: from, To: to}
}

// together tells calls of that kind, with these numbers, that all overlap.
func together(kind int, numbers ...int) []api.Call {
	var l []api.Call
	for i, n := range numbers {
		l = append(l, call(kind, n, i+1, len(numbers)+i+1))
	}
	return l
}

// apart tells calls of that kind, with these numbers, each ahead of the next one.
func apart(kind int, numbers ...int) []api.Call {
	var l []api.Call
	for i, n := range numbers {
		l = append(l, call(kind, n, 2*i+1, 2*i+2))
	}
	return l
}

// upTo tells 0, 1 and so on, below n.
func upTo(n int) []int {
	l := make([]int, n)
	for i := range l {
		l[i] = i
	}
	return l
}

// falling tells n, n-1 and so on, down to 1.
func falling(n int) []int {
	l := make([]int, n)
	for i := range l {
		l[i] = n - i
	}
	return l
}

// theOrder holds what Order tells against the order that it is to tell, twice, and Check of it against true.
func theOrder[S any](t *testing.T, m Machine[S], l []api.Call, want []int) {
	t.Helper()
	for range 2 {
		got, ok := Order(m, l)
		if !ok || !slices.Equal(got, want) {
			t.Fatalf("Order(%v) %v %v, want %v", l, got, ok, want)
		}
		if !Check(m, l, got) {
			t.Fatalf("Check(%v, %v) false", l, got)
		}
	}
}

// noOrder holds what Order tells against none and false.
func noOrder[S any](t *testing.T, m Machine[S], l []api.Call) {
	t.Helper()
	if got, ok := Order(m, l); ok || len(got) != 0 {
		t.Fatalf("Order(%v) %v %v, want none", l, got, ok)
	}
}

// counted holds what Count tells against what it is to tell, twice.
func counted[S any](t *testing.T, m Machine[S], l []api.Call, want int) {
	t.Helper()
	for range 2 {
		if got := Count(m, l); got != want {
			t.Fatalf("Count(%v) %d, want %d", l, got, want)
		}
	}
}

// checked holds what Check tells against what it is to tell, twice.
func checked[S any](t *testing.T, m Machine[S], l []api.Call, order []int, want bool) {
	t.Helper()
	for range 2 {
		if got := Check(m, l, order); got != want {
			t.Fatalf("Check(%v, %v) %v, want %v", l, order, got, want)
		}
	}
}

// P8.1, P8.2: the chapter's example: two calls that overlap, of a counter that answers 2 and 1.
func TestExample(t *testing.T) {
	l := together(add, 2, 1)
	theOrder(t, register(), l, []int{1, 0})
	checked(t, register(), l, []int{0, 1}, false)
	counted(t, register(), l, 1)
}

// P8.1, P8.2: calls that all overlap may come in any order that the answers allow.
func TestAllOverlap(t *testing.T) {
	theOrder(t, register(), together(add, 4, 1, 3, 2), []int{1, 3, 2, 0})
	counted(t, register(), together(add, 4, 1, 3, 2), 1)
	theOrder(t, register(), together(write, 7, 8, 9), []int{0, 1, 2})
	counted(t, register(), together(write, 7, 8, 9), 6)
	noOrder(t, register(), together(add, 4, 1, 3, 3))
	counted(t, register(), together(add, 4, 1, 3, 3), 0)
}

// P8.1, P8.2: calls of which each is ahead of the next one have one order at most.
func TestNoneOverlap(t *testing.T) {
	theOrder(t, register(), apart(add, 1, 2, 3, 4), []int{0, 1, 2, 3})
	counted(t, register(), apart(add, 1, 2, 3, 4), 1)
	noOrder(t, register(), apart(add, 2, 1))
	counted(t, register(), apart(add, 2, 1), 0)
	theOrder(t, mute(), apart(write, 0, 0, 0), []int{0, 1, 2})
	counted(t, mute(), apart(write, 0, 0, 0), 1)
}

// P8.1, P8.2: of several orders the first one is told, place by place.
func TestFirstOfSeveral(t *testing.T) {
	for name, c := range map[string]struct {
		l     []api.Call
		want  []int
		count int
	}{
		"what is read stands right behind its write": {
			[]api.Call{call(write, 5, 1, 10), call(read, 5, 2, 11), call(read, 0, 3, 12), call(write, 6, 4, 13)},
			[]int{2, 0, 1, 3}, 2,
		},
		"the first place decides, not the last": {
			[]api.Call{call(read, 1, 1, 9), call(write, 1, 2, 10), call(write, 1, 3, 11)},
			[]int{1, 0, 2}, 4,
		},
		"a first place from which none goes on is left again": {
			[]api.Call{call(write, 1, 1, 9), call(read, 0, 2, 10), call(read, 1, 3, 11)},
			[]int{1, 0, 2}, 1,
		},
		"left again far in": {
			[]api.Call{call(write, 1, 1, 11), call(write, 2, 2, 12), call(write, 3, 3, 13), call(read, 1, 14, 15)},
			[]int{1, 2, 0, 3}, 2,
		},
		"one that lasts, beside two that don't": {
			[]api.Call{call(write, 1, 1, 8), call(write, 2, 2, 3), call(write, 3, 4, 5)},
			[]int{0, 1, 2}, 3,
		},
		"one that lasts, and mustn't come between": {
			[]api.Call{call(write, 1, 1, 8), call(write, 2, 2, 3), call(write, 3, 4, 5), call(read, 3, 6, 7)},
			[]int{0, 1, 2, 3}, 3,
		},
	} {
		t.Run(name, func(t *testing.T) {
			theOrder(t, register(), c.l, c.want)
			counted(t, register(), c.l, c.count)
		})
	}
}

// P8.1, P8.2: histories that have no order: the answers, or the answers and time, stand in the way.
func TestNoOrder(t *testing.T) {
	for name, l := range map[string][]api.Call{
		"one that nobody answers":            {call(read, 7, 1, 2)},
		"a write that is read ahead of it":   {call(read, 5, 1, 2), call(write, 5, 3, 4)},
		"a write that isn't read behind it":  {call(write, 5, 1, 2), call(read, 0, 3, 4)},
		"the new one, then the old one":      {call(write, 5, 1, 8), call(read, 5, 2, 3), call(read, 0, 4, 5)},
		"another error":                      {{Op: api.Op{Kind: write}, Answer: api.Answer{Error: api.ErrArg}, From: 1, To: 2}},
		"another B":                          {{Op: api.Op{Kind: write}, Answer: api.Answer{B: 1}, From: 1, To: 2}},
		"another topic":                      {{Op: api.Op{Kind: write}, Answer: api.Answer{Msg: api.Msg{Topic: "a"}}, From: 1, To: 2}},
		"another payload":                    {{Op: api.Op{Kind: write}, Answer: api.Answer{Msg: api.Msg{Payload: "a"}}, From: 1, To: 2}},
		"kept":                               {{Op: api.Op{Kind: write}, Answer: api.Answer{Msg: api.Msg{Kept: true}}, From: 1, To: 2}},
		"the last of many":                   append(together(write, 1, 2, 3, 4, 5), call(read, 6, 90, 91)),
		"two that are ahead of one another":  {call(write, 1, 5, 2), call(write, 1, 6, 3)},
		"a counter that leaves a number out": together(add, 1, 3),
	} {
		t.Run(name, func(t *testing.T) {
			noOrder(t, register(), l)
			counted(t, register(), l, 0)
			checked(t, register(), l, upTo(len(l)), false)
		})
	}
}

// P8.1, P8.2: the machine begins in its First, and is handed the whole operation.
func TestFirstState(t *testing.T) {
	m := register()
	m.First = 41
	theOrder(t, m, together(add, 43, 42), []int{1, 0})
	counted(t, m, together(add, 43, 42), 1)
	noOrder(t, register(), together(add, 43, 42))
	op := api.Op{Kind: -3, Sub: 9, Text: "a\x00\xff", Payload: "p", Keep: true}
	answer := api.Answer{Error: 7, A: -1, B: 2, Msg: api.Msg{Topic: "t", Payload: "q", Kept: true}}
	echo := mute()
	echo.Do = func(s struct{}, x api.Op) (struct{}, api.Answer) {
		if x != op {
			return s, api.Answer{}
		}
		return s, answer
	}
	l := []api.Call{{Thread: -1, Place: -1, Op: op, Answer: answer, From: 1, To: 2}}
	theOrder(t, echo, l, []int{0})
	checked(t, echo, l, []int{0}, true)
	counted(t, echo, l, 1)
}

// P8.1: a state of any type, with states that are reached by several ways and have keys of their own.
func TestStatesOfAnyType(t *testing.T) {
	var l []api.Call
	for i, a := range []int{2, 0, 3, 1} {
		l = append(l, api.Call{Op: api.Op{Text: strconv.Itoa(i)}, Answer: api.Answer{A: a}, From: i + 1, To: i + 11})
	}
	theOrder(t, row(), l, []int{1, 3, 0, 2})
	counted(t, row(), l, 1)
	l[3].Answer.A = 2
	noOrder(t, row(), l)
}

// P8.1: what is done in two ways may be in two states: that one of them leads nowhere doesn't count for the other one.
func TestSameDoneOtherState(t *testing.T) {
	// Behind 0 and 1 the register has 2, by 1 and 0 it has 1, which is read.
	l := []api.Call{call(write, 1, 1, 3), call(write, 2, 2, 4), call(read, 1, 5, 6)}
	theOrder(t, register(), l, []int{1, 0, 2})
	counted(t, register(), l, 1)
}

// P8.1: a history of 24 calls is looked through, whatever overlaps; one of 25 isn't.
func TestTwentyFour(t *testing.T) {
	want := upTo(24)
	slices.Reverse(want)
	theOrder(t, register(), together(add, falling(24)...), want)
	noOrder(t, register(), together(add, falling(25)...))
	theOrder(t, register(), apart(write, upTo(24)...), upTo(24))
	noOrder(t, register(), apart(write, upTo(25)...))
	theOrder(t, mute(), together(write, make([]int, 24)...), upTo(24))
	noOrder(t, mute(), together(write, make([]int, 25)...))
	noOrder(t, mute(), make([]api.Call, 1<<16))
}

// P8.1, P1: a search for what there isn't ends, though 24 calls overlap.
func TestSearchesInVainEnd(t *testing.T) {
	alike := together(write, make([]int, 23)...)
	noOrder(t, register(), append(alike, call(read, 7, 24, 99)))
	// All ways through 14 writes of numbers of their own end in one of 14 states.
	noOrder(t, register(), append(together(write, upTo(14)...), call(read, 77, 50, 51)))
	// Which of the writes was last is known at the end.
	l := append(together(write, falling(14)...), call(read, 14, 50, 51))
	theOrder(t, register(), l, []int{1, 2, 3, 4, 5, 6, 7, 8, 9, 10, 11, 12, 13, 0, 14})
}

// P8.1, P8.2: without Do, without Key, and without both.
func TestWithoutFunctions(t *testing.T) {
	whole := register()
	noDo, noKey, neither := Machine[int]{Key: whole.Key}, Machine[int]{Do: whole.Do}, Machine[int]{}
	for _, l := range [][]api.Call{nil, {}, apart(add, 1), together(add, 2, 1), together(write, 1, 2, 3, 4, 5, 6, 7)} {
		order, ok := Order(whole, l)
		if !ok || Count(whole, l) < 1 {
			t.Fatal(l)
		}
		for _, m := range []Machine[int]{noDo, noKey, neither} {
			noOrder(t, m, l)
		}
		checked(t, noDo, l, order, false)
		checked(t, neither, l, order, false)
		checked(t, noKey, l, order, true)
		counted(t, noDo, l, 0)
		counted(t, neither, l, 0)
		counted(t, noKey, l, Count(whole, l))
	}
	for _, n := range []int{8, 24, 25, 100} {
		l := apart(write, upTo(n)...)
		for _, m := range []Machine[int]{noDo, noKey, neither} {
			noOrder(t, m, l)
		}
		checked(t, noDo, l, upTo(n), false)
		checked(t, neither, l, upTo(n), false)
		checked(t, noKey, l, upTo(n), true)
		counted(t, noDo, l, 0)
		counted(t, neither, l, 0)
		counted(t, noKey, l, -1)
	}
}

// P8.1, P8.2: of no calls the empty order is the only one.
func TestNoCalls(t *testing.T) {
	for _, l := range [][]api.Call{nil, {}} {
		theOrder(t, register(), l, nil)
		counted(t, register(), l, 1)
		for _, order := range [][]int{nil, {}} {
			checked(t, register(), l, order, true)
			checked(t, Machine[int]{Key: strconv.Itoa}, l, order, false)
		}
		for _, order := range [][]int{{0}, {-1}, {0, 1}, {1}} {
			checked(t, register(), l, order, false)
		}
	}
}

// P8.1: the first order is one, others are, and lists that aren't one aren't.
func TestCheck(t *testing.T) {
	// The read of 2 is behind both writes, one of which lasts.
	l := []api.Call{call(write, 1, 1, 4), call(write, 2, 2, 3), call(read, 2, 5, 6), call(write, 3, 7, 9), call(write, 4, 8, 10)}
	theOrder(t, register(), l, []int{0, 1, 2, 3, 4})
	counted(t, register(), l, 2)
	for name, c := range map[string]struct {
		order []int
		want  bool
	}{
		"the first one":                    {[]int{0, 1, 2, 3, 4}, true},
		"another one":                      {[]int{0, 1, 2, 4, 3}, true},
		"an answer that isn't given":       {[]int{1, 0, 2, 3, 4}, false},
		"the wrong way round in time":      {[]int{0, 1, 3, 2, 4}, false},
		"the last one first":               {[]int{4, 0, 1, 2, 3}, false},
		"the first one last":               {[]int{1, 2, 3, 4, 0}, false},
		"a place that there isn't":         {[]int{0, 1, 2, 3, 5}, false},
		"a place below 0":                  {[]int{-1, 1, 2, 3, 4}, false},
		"the least place":                  {[]int{0, 1, 2, 3, math.MinInt}, false},
		"the greatest place":               {[]int{0, 1, 2, 3, math.MaxInt}, false},
		"one twice":                        {[]int{0, 1, 2, 3, 3}, false},
		"one twice, at the beginning":      {[]int{0, 0, 2, 3, 4}, false},
		"one left out":                     {[]int{0, 1, 2, 3}, false},
		"one left out, at the beginning":   {[]int{1, 2, 3, 4}, false},
		"one too many, twice":              {[]int{0, 1, 2, 3, 4, 4}, false},
		"one too many, that there isn't":   {[]int{0, 1, 2, 3, 4, 5}, false},
		"one too many, ahead":              {[]int{0, 0, 1, 2, 3, 4}, false},
		"places that count from 1":         {[]int{1, 2, 3, 4, 5}, false},
		"none":                             {nil, false},
		"the empty list":                   {[]int{}, false},
		"only one, five times":             {[]int{2, 2, 2, 2, 2}, false},
		"all of them, the other way round": {[]int{4, 3, 2, 1, 0}, false},
	} {
		t.Run(name, func(t *testing.T) {
			checked(t, register(), l, c.order, c.want)
			checked(t, Machine[int]{Do: register().Do}, l, c.order, c.want)
			checked(t, Machine[int]{Key: strconv.Itoa}, l, c.order, false)
		})
	}
}

// P8.1: time alone stands in the way, also of two calls far from one another; at the bound it doesn't.
func TestCheckOfTime(t *testing.T) {
	l := []api.Call{span(1, 2), span(3, 20), span(4, 21)}
	checked(t, mute(), l, []int{0, 2, 1}, true)
	checked(t, mute(), l, []int{1, 2, 0}, false)
	checked(t, mute(), l, []int{2, 0, 1}, false)
	for from, want := range map[int]bool{4: true, 5: true, 6: false} {
		l := []api.Call{span(1, 5), span(from, 9)}
		checked(t, mute(), l, []int{1, 0}, want)
		checked(t, mute(), l, []int{0, 1}, true)
		counted(t, mute(), l, map[bool]int{true: 2, false: 1}[want])
	}
	// A call isn't another one than itself, though it ends ahead of its beginning.
	theOrder(t, mute(), []api.Call{span(5, 2)}, []int{0})
	theOrder(t, mute(), []api.Call{span(math.MaxInt, math.MinInt)}, []int{0})
	theOrder(t, mute(), []api.Call{span(5, 2), span(1, 4)}, []int{1, 0})
	noOrder(t, mute(), []api.Call{span(5, 2), span(5, 3)})
	theOrder(t, mute(), []api.Call{span(math.MinInt, math.MinInt), span(math.MinInt, math.MaxInt)}, []int{0, 1})
	counted(t, mute(), []api.Call{span(math.MinInt, math.MinInt), span(math.MinInt, math.MaxInt)}, 2)
}

// P8.1: Check has no bound of calls.
func TestCheckOfMany(t *testing.T) {
	for _, n := range []int{24, 25, 1 << 16} {
		numbers := upTo(n + 1)[1:]
		checked(t, register(), apart(add, numbers...), upTo(n), true)
		checked(t, register(), apart(add, upTo(n)...), upTo(n), false)
		back := upTo(n)
		slices.Reverse(back)
		checked(t, register(), together(add, falling(n)...), back, true)
		checked(t, register(), together(add, falling(n)...), upTo(n), false)
		back[0] = back[1]
		checked(t, register(), together(add, falling(n)...), back, false)
	}
}

// P8.2: up to 7 calls are counted, more aren't.
func TestCount(t *testing.T) {
	orders := 1
	for n := 1; n <= 7; n++ {
		orders *= n
		counted(t, mute(), together(write, make([]int, n)...), orders)
		counted(t, register(), together(write, upTo(n)...), orders)
		counted(t, register(), together(add, falling(n)...), 1)
		counted(t, register(), together(read, falling(n)...), 0)
		counted(t, mute(), apart(write, upTo(n)...), 1)
	}
	for _, n := range []int{8, 9, 24, 25, 1 << 16} {
		counted(t, mute(), together(write, make([]int, n)...), -1)
		counted(t, register(), apart(add, upTo(n)...), -1)
	}
}

// permutations calls what it is handed with all orders of the places below n, from the first one on.
func permutations(n int, do func(order []int)) {
	var more func(order []int)
	more = func(order []int) {
		if len(order) == n {
			do(order)
			return
		}
		for i := range n {
			if !slices.Contains(order, i) {
				more(append(order[:len(order):len(order)], i))
			}
		}
	}
	more(nil)
}

// isOrder works out by the chapter's words, pair by pair, whether a list of all places is an order.
func isOrder[S any](m Machine[S], l []api.Call, order []int) bool {
	for k, i := range order {
		for _, ahead := range order[:k] {
			if l[i].To < l[ahead].From {
				return false
			}
		}
	}
	state := m.First
	for _, i := range order {
		var a api.Answer
		if state, a = m.Do(state, l[i].Op); a != l[i].Answer {
			return false
		}
	}
	return true
}

// against holds Order, Check and Count of a history against the chapter's words, and tells how many orders there are.
func against[S any](t *testing.T, m Machine[S], l []api.Call) int {
	t.Helper()
	var first []int
	n := 0
	permutations(len(l), func(order []int) {
		want := isOrder(m, l, order)
		if Check(m, l, order) != want {
			t.Fatalf("Check(%v, %v) %v", l, order, !want)
		}
		if want && n == 0 {
			first = order
		}
		if want {
			n++
		}
	})
	if got, ok := Order(m, l); ok != (n > 0) || !slices.Equal(got, first) {
		t.Fatalf("Order(%v) %v %v, want %v", l, got, ok, first)
	}
	if got := Count(m, l); got != n {
		t.Fatalf("Count(%v) %d, want %d", l, got, n)
	}
	return n
}

// eachHistory calls what it is handed with all lists of at most so many of these calls.
func eachHistory(calls []api.Call, longest int, do func(l []api.Call)) {
	var more func(l []api.Call)
	more = func(l []api.Call) {
		do(l)
		if len(l) == longest {
			return
		}
		for _, c := range calls {
			more(append(l[:len(l):len(l)], c))
		}
	}
	more(nil)
}

// P8.1, P8.2: all short lists of calls of a register, right or not, against the chapter's words.
func TestAllShortHistories(t *testing.T) {
	var calls []api.Call
	for _, what := range [][2]int{{write, 1}, {write, 2}, {read, 0}, {read, 1}} {
		for from := range 3 {
			for to := range 3 {
				calls = append(calls, call(what[0], what[1], from, to))
			}
		}
	}
	counts := map[int]int{}
	eachHistory(calls, 3, func(l []api.Call) { counts[against(t, register(), l)]++ })
	for n := range 4 {
		if counts[n] < 100 {
			t.Fatal("hardly a history has so many orders", n, counts)
		}
	}
}

// P8.1, P8.2: histories of up to 6 calls of a counter and a register, many of whose calls are alike, from a row of numbers that is the same each time.
func TestLongerHistories(t *testing.T) {
	seed := uint64(1)
	number := func(below int) int {
		seed = seed*6364136223846793005 + 1442695040888963407
		return int(seed>>33) % below
	}
	counts := map[bool]int{}
	for range 6000 {
		var l []api.Call
		for range 4 + number(3) {
			from := number(8)
			l = append(l, call(write+number(3), number(4), from, from+number(6)))
		}
		counts[against(t, register(), l) > 0]++
		counts[against(t, mute(), times(l)) > 0]++
	}
	if counts[true] < 1000 || counts[false] < 1000 {
		t.Fatal(counts)
	}
}

// times tells calls of which nothing is left but their moments.
func times(l []api.Call) []api.Call {
	var bare []api.Call
	for _, c := range l {
		bare = append(bare, span(c.From, c.To))
	}
	return bare
}

// P8.1: all lists of places, of up to one more than there are calls, are held against the chapter's words.
func TestCheckOfAllShortLists(t *testing.T) {
	l := []api.Call{call(write, 1, 1, 4), call(write, 2, 2, 5), call(write, 1, 3, 6)}
	right := 0
	var more func(order []int)
	more = func(order []int) {
		sorted := slices.Clone(order)
		slices.Sort(sorted)
		want := slices.Equal(sorted, []int{0, 1, 2})
		checked(t, register(), l, order, want)
		if want {
			right++
		}
		if len(order) > len(l) {
			return
		}
		for i := -1; i <= len(l); i++ {
			more(append(order[:len(order):len(order)], i))
		}
	}
	more(nil)
	if right != 6 {
		t.Fatal(right)
	}
}

// P8.1, P8.2, R4: neither list is changed or kept, what lies behind one's length isn't read, and what is told is the asker's.
func TestListsAreLeft(t *testing.T) {
	l := append(together(add, 2, 1), call(read, 99, 1, 1))
	order := []int{1, 0, 2, 77}
	calls, places := slices.Clone(l), slices.Clone(order)
	for range 2 {
		got, ok := Order(register(), l[:2])
		if !ok || !slices.Equal(got, []int{1, 0}) {
			t.Fatal(got, ok)
		}
		checked(t, register(), l[:2], order[:2], true)
		counted(t, register(), l[:2], 1)
		got[0], got[1] = 77, 78
		_ = append(got, 79)
	}
	noOrder(t, register(), l)
	checked(t, register(), l, order[:3], false)
	checked(t, register(), l[:2], order[:1], false)
	if !slices.Equal(l, calls) || !slices.Equal(order, places) {
		t.Fatal(l, order)
	}
	one, _ := Order(register(), l[:2])
	two, _ := Order(register(), l[:2])
	one[0] = 77
	if !slices.Equal(two, []int{1, 0}) {
		t.Fatal("two answers share their memory")
	}
}
