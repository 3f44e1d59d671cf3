package hist

import (
	"math"
	"slices"
	"strconv"
	"testing"

	"bellman/api"
)

// far are numbers at and around the bounds of what an int has.
var far = []int{math.MinInt, math.MinInt + 1, -1, 0, 1, math.MaxInt - 1, math.MaxInt}

// opOf and answerOf tell an operation and an answer of which every field hangs on n.
func opOf(n int) api.Op {
	return api.Op{Kind: n, Sub: -n, Text: "t" + strconv.Itoa(n), Payload: "\x00\xff" + strconv.Itoa(n), Keep: n%2 == 0}
}

func answerOf(n int) api.Answer {
	return api.Answer{Error: api.Errno(n), A: -n, B: n + 1, Msg: api.Msg{Topic: "m" + strconv.Itoa(n), Payload: "p" + strconv.Itoa(n), Kept: n%2 == 1}}
}

// begin begins a call with the operation of that number, and holds the number against the one that it is to have.
func begin(t *testing.T, l *Log, thread, n, want int) {
	t.Helper()
	if got := l.Begin(thread, opOf(n)); got != want {
		t.Fatalf("Begin(%d) %d, want %d", thread, got, want)
	}
}

// end ends a call with the answer of that number, and holds what is told against what is to be.
func end(t *testing.T, l *Log, id, n int, want bool) {
	t.Helper()
	if got := l.End(id, answerOf(n)); got != want {
		t.Fatalf("End(%d) %v, want %v", id, got, want)
	}
}

// check holds what a log has against what it is to have, twice.
func check(t *testing.T, l *Log, want []api.Call, all bool) {
	t.Helper()
	for range 2 {
		got, ok := l.Calls()
		if !slices.Equal(got, want) || ok != all {
			t.Fatalf("Calls() %#v %v, want %#v %v", got, ok, want, all)
		}
	}
}

// P7.1: a new log is empty, and each is a log of its own.
func TestNew(t *testing.T) {
	a, b := New(), New()
	if a == nil || b == nil || a == b {
		t.Fatal("no new log")
	}
	check(t, a, nil, true)
	begin(t, a, 0, 1, 1)
	check(t, b, nil, true)
	begin(t, b, 3, 2, 1)
	check(t, a, []api.Call{{Op: opOf(1), From: 1}}, false)
	check(t, b, []api.Call{{Thread: 3, Op: opOf(2), From: 1}}, false)
}

// P7.1: the chapter's example: of two calls, one lies within the other one.
func TestExample(t *testing.T) {
	l := New()
	begin(t, l, 0, 1, 1)
	begin(t, l, 1, 2, 2)
	end(t, l, 2, 3, true)
	end(t, l, 1, 4, true)
	check(t, l, []api.Call{
		{Thread: 0, Op: opOf(1), Answer: answerOf(4), From: 1, To: 4},
		{Thread: 1, Op: opOf(2), Answer: answerOf(3), From: 2, To: 3},
	}, true)
}

// P7.1: calls of one thread, one behind the other.
func TestOneThread(t *testing.T) {
	l := New()
	var want []api.Call
	for i := range 9 {
		begin(t, l, 7, i, i+1)
		want = append(want, api.Call{Thread: 7, Place: i, Op: opOf(i), From: 2*i + 1})
		check(t, l, want, false)
		end(t, l, i+1, 100+i, true)
		want[i].Answer, want[i].To = answerOf(100+i), 2*i+2
		check(t, l, want, true)
	}
	if !Right(want) {
		t.Fatalf("not right: %#v", want)
	}
}

// P7.1: calls of several threads overlap; each thread's Places are counted by themselves, whatever its number.
func TestSeveralThreads(t *testing.T) {
	l := New()
	begin(t, l, 2, 1, 1)           // 1
	begin(t, l, -9, 2, 2)          // 2
	end(t, l, 1, 11, true)         // 3
	begin(t, l, 2, 3, 3)           // 4
	begin(t, l, math.MaxInt, 4, 4) // 5
	end(t, l, 4, 14, true)         // 6
	end(t, l, 2, 12, true)         // 7
	begin(t, l, -9, 5, 5)          // 8
	begin(t, l, math.MinInt, 6, 6) // 9
	end(t, l, 3, 13, true)         // 10
	begin(t, l, 2, 7, 7)           // 11
	end(t, l, 6, 16, true)         // 12
	end(t, l, 7, 17, true)         // 13
	end(t, l, 5, 15, true)         // 14
	begin(t, l, math.MaxInt, 8, 8) // 15
	end(t, l, 8, 18, true)         // 16
	want := []api.Call{
		{Thread: 2, Place: 0, Op: opOf(1), Answer: answerOf(11), From: 1, To: 3},
		{Thread: -9, Place: 0, Op: opOf(2), Answer: answerOf(12), From: 2, To: 7},
		{Thread: 2, Place: 1, Op: opOf(3), Answer: answerOf(13), From: 4, To: 10},
		{Thread: math.MaxInt, Place: 0, Op: opOf(4), Answer: answerOf(14), From: 5, To: 6},
		{Thread: -9, Place: 1, Op: opOf(5), Answer: answerOf(15), From: 8, To: 14},
		{Thread: math.MinInt, Place: 0, Op: opOf(6), Answer: answerOf(16), From: 9, To: 12},
		{Thread: 2, Place: 2, Op: opOf(7), Answer: answerOf(17), From: 11, To: 13},
		{Thread: math.MaxInt, Place: 1, Op: opOf(8), Answer: answerOf(18), From: 15, To: 16},
	}
	check(t, l, want, true)
	if !Right(want) {
		t.Fatal("not right")
	}
}

// P7.1: a thread's call may begin while its last one didn't end: its Place counts those that began, not those that ended.
func TestPlaceCountsWhatBegan(t *testing.T) {
	l := New()
	begin(t, l, 4, 1, 1)
	begin(t, l, 4, 2, 2)
	begin(t, l, 4, 3, 3)
	end(t, l, 2, 12, true)
	begin(t, l, 4, 4, 4)
	check(t, l, []api.Call{
		{Thread: 4, Place: 0, Op: opOf(1), From: 1},
		{Thread: 4, Place: 1, Op: opOf(2), Answer: answerOf(12), From: 2, To: 4},
		{Thread: 4, Place: 2, Op: opOf(3), From: 3},
		{Thread: 4, Place: 3, Op: opOf(4), From: 5},
	}, false)
}

// P7.1: to end a call that there isn't, or that ended, is false, and takes no moment and no answer.
func TestEndThatChangesNothing(t *testing.T) {
	l := New()
	for _, id := range far {
		end(t, l, id, 1, false)
	}
	check(t, l, nil, true)
	begin(t, l, 0, 1, 1)
	for _, id := range append([]int{2, 3}, far...) {
		if id != 1 {
			end(t, l, id, 2, false)
		}
	}
	check(t, l, []api.Call{{Op: opOf(1), From: 1}}, false)
	end(t, l, 1, 3, true)
	for _, id := range append([]int{1, 1, 2, 3}, far...) {
		end(t, l, id, 4, false)
	}
	want := []api.Call{{Op: opOf(1), Answer: answerOf(3), From: 1, To: 2}}
	check(t, l, want, true)
	begin(t, l, 0, 5, 2)
	end(t, l, 1, 6, false)
	end(t, l, 3, 6, false)
	want = append(want, api.Call{Place: 1, Op: opOf(5), From: 3})
	check(t, l, want, false)
	end(t, l, 2, 7, true)
	want[1].Answer, want[1].To = answerOf(7), 4
	check(t, l, want, true)
}

// P7.1: a call that ended with an answer of zeros ended, too.
func TestEndWithZeros(t *testing.T) {
	l := New()
	if l.Begin(0, api.Op{}) != 1 || !l.End(1, api.Answer{}) || l.End(1, api.Answer{A: 1}) {
		t.Fatal("zeros")
	}
	check(t, l, []api.Call{{From: 1, To: 2}}, true)
}

// P7.1: Calls is false while one call didn't end, wherever it stands, and tells all of them.
func TestCallsWhileOneIsOpen(t *testing.T) {
	for out := range 4 {
		l := New()
		var want []api.Call
		for i := range 4 {
			begin(t, l, i, i, i+1)
			want = append(want, api.Call{Thread: i, Op: opOf(i), From: i + 1})
		}
		moment := 4
		for i := range 4 {
			check(t, l, want, false)
			if i != out {
				end(t, l, i+1, i, true)
				moment++
				want[i].Answer, want[i].To = answerOf(i), moment
			}
		}
		check(t, l, want, false)
		end(t, l, out+1, 9, true)
		want[out].Answer, want[out].To = answerOf(9), 8
		check(t, l, want, true)
	}
}

// P7.1, R4: what Calls told is the asker's: nothing that is written over it, or put behind it, comes to the log, and nothing of the log comes to it.
func TestCallsAreCopies(t *testing.T) {
	l := New()
	begin(t, l, 0, 1, 1)
	begin(t, l, 1, 2, 2)
	end(t, l, 1, 3, true)
	want := []api.Call{
		{Thread: 0, Op: opOf(1), Answer: answerOf(3), From: 1, To: 3},
		{Thread: 1, Op: opOf(2), From: 2},
	}
	kept, _ := l.Calls()
	told, _ := l.Calls()
	for i := range told {
		told[i] = api.Call{Thread: 77, Place: 77, To: 77}
	}
	_ = append(told, api.Call{Thread: 78, To: 78})
	check(t, l, want, false)
	end(t, l, 2, 4, true)
	begin(t, l, 1, 5, 3)
	if !slices.Equal(kept, want) {
		t.Fatalf("changed by the log: %#v", kept)
	}
	want[1].Answer, want[1].To = answerOf(4), 4
	check(t, l, append(want, api.Call{Thread: 1, Place: 1, Op: opOf(5), From: 5}), false)
}

// P7.1: of a nil log: 0, false, none and true.
func TestNilLog(t *testing.T) {
	var l *Log
	for _, n := range far {
		begin(t, l, n, 1, 0)
		end(t, l, n, 1, false)
	}
	check(t, l, nil, true)
}

// P7.1: a zero log is empty, and is used as a new one.
func TestZeroLog(t *testing.T) {
	var empty, l Log
	check(t, &empty, nil, true)
	for _, n := range far {
		end(t, &empty, n, 1, false)
	}
	check(t, &empty, nil, true)
	begin(t, &l, 5, 1, 1)
	begin(t, &l, 5, 2, 2)
	end(t, &l, 2, 3, true)
	check(t, &l, []api.Call{{Thread: 5, Op: opOf(1), From: 1}, {Thread: 5, Place: 1, Op: opOf(2), Answer: answerOf(3), From: 2, To: 3}}, false)
}

// deed is what is done to a log in all short rows: a thread's call begins, or the call of a number ends.
type deed struct {
	ends bool
	n    int
}

// expected works out by the chapter's words what a log has behind these deeds; told has what each of them is to tell, a false one as 0.
func expected(deeds []deed) (calls []api.Call, told []int) {
	moment := 0
	for i, d := range deeds {
		if !d.ends {
			place := 0
			for _, c := range calls {
				if c.Thread == d.n {
					place++
				}
			}
			moment++
			calls = append(calls, api.Call{Thread: d.n, Place: place, Op: opOf(i), From: moment})
			told = append(told, len(calls))
		} else if d.n < 1 || d.n > len(calls) || calls[d.n-1].To > 0 {
			told = append(told, 0)
		} else {
			moment++
			calls[d.n-1].Answer, calls[d.n-1].To = answerOf(i), moment
			told = append(told, 1)
		}
	}
	return calls, told
}

// P7.1: all short rows of calls that begin and end.
func TestAllShortRows(t *testing.T) {
	const longest = 5
	choices := []deed{{false, 0}, {false, 1}, {true, 0}, {true, 1}, {true, 2}, {true, 3}}
	ended := 0
	var row func(deeds []deed)
	row = func(deeds []deed) {
		want, told := expected(deeds)
		l := New()
		for i, d := range deeds {
			if d.ends {
				end(t, l, d.n, i, told[i] == 1)
			} else {
				begin(t, l, d.n, i, told[i])
			}
		}
		all := !slices.ContainsFunc(want, func(c api.Call) bool { return c.To == 0 })
		check(t, l, want, all)
		if all {
			ended++
		}
		if len(deeds) == longest {
			return
		}
		for _, d := range choices {
			row(append(deeds[:len(deeds):len(deeds)], d))
		}
	}
	row(nil)
	if ended < 10 {
		t.Fatal("hardly a row has calls that all ended", ended)
	}
}

// P7.1, P7.2: a long log is right, and its calls come one behind the other.
func TestLongLog(t *testing.T) {
	const n = 1 << 16
	l := New()
	for i := range n {
		if l.Begin(i%3, api.Op{Sub: i}) != i+1 || !l.End(i+1, api.Answer{A: i}) {
			t.Fatal(i)
		}
	}
	calls, ok := l.Calls()
	if !ok || len(calls) != n || !Right(calls) {
		t.Fatal(len(calls), ok)
	}
	for i, c := range calls {
		if c != (api.Call{Thread: i % 3, Place: i / 3, Op: api.Op{Sub: i}, Answer: api.Answer{A: i}, From: 2*i + 1, To: 2*i + 2}) {
			t.Fatal(i, c)
		}
	}
	if got := Minimal(calls, nil); !slices.Equal(got, []int{0}) {
		t.Fatal(got)
	}
	if got := Minimal(calls, slices.Repeat([]bool{true}, n-1)); !slices.Equal(got, []int{n - 1}) {
		t.Fatal(got)
	}
}

// P7.2: a call is ahead of another one if its To is below the other one's From; nothing else counts.
func TestAhead(t *testing.T) {
	for _, c := range []struct {
		to, from int
		want     bool
	}{
		{1, 2, true}, {2, 2, false}, {3, 2, false}, {2, 9, true},
		{0, 0, false}, {0, 1, true}, {-1, 0, true}, {-2, -1, true}, {0, -1, false},
		{math.MinInt, math.MaxInt, true}, {math.MaxInt, math.MinInt, false},
		{math.MinInt, math.MinInt, false}, {math.MinInt, math.MinInt + 1, true},
		{math.MaxInt, math.MaxInt, false}, {math.MaxInt - 1, math.MaxInt, true},
	} {
		for _, other := range far {
			a := api.Call{Thread: other, Place: -other, Op: opOf(1), Answer: answerOf(2), From: other, To: c.to}
			b := api.Call{Thread: other, Place: other, From: c.from, To: other}
			if Ahead(a, b) != c.want {
				t.Fatalf("To %d, From %d: %v", c.to, c.from, !c.want)
			}
		}
	}
	// Of itself only a call is ahead that ends ahead of its beginning.
	if Ahead(api.Call{From: 1, To: 2}, api.Call{From: 1, To: 2}) || !Ahead(api.Call{From: 2, To: 1}, api.Call{From: 2, To: 1}) {
		t.Fatal("of itself")
	}
}

// span tells a call of a thread, at its place, from one moment to another.
func span(thread, place, from, to int) api.Call {
	return api.Call{Thread: thread, Place: place, From: from, To: to}
}

// P7.2: lists that are right, the edges among them.
func TestRightLists(t *testing.T) {
	for name, l := range map[string][]api.Call{
		"nil":                             nil,
		"none":                            {},
		"one":                             {span(0, 0, 1, 2)},
		"moments are left out":            {span(0, 0, 5, 90)},
		"the last moments":                {span(0, 0, math.MaxInt-1, math.MaxInt)},
		"all moments":                     {span(0, 0, 1, math.MaxInt)},
		"one thread":                      {span(3, 0, 1, 2), span(3, 1, 3, 4), span(3, 2, 5, 6)},
		"two threads, apart":              {span(0, 0, 1, 2), span(1, 0, 3, 4)},
		"two threads, one within":         {span(0, 0, 1, 4), span(1, 0, 2, 3)},
		"two threads, crosswise":          {span(0, 0, 1, 3), span(1, 0, 2, 4)},
		"threads of any numbers":          {span(math.MinInt, 0, 1, 3), span(math.MaxInt, 0, 2, 5), span(math.MinInt, 1, 4, 6), span(-1, 0, 7, 8)},
		"several of several":              {span(1, 0, 1, 4), span(0, 0, 2, 3), span(0, 1, 5, 8), span(1, 1, 6, 7), span(1, 2, 9, 10)},
		"whatever is asked and answered":  {{Op: opOf(-1), Answer: answerOf(-1), From: 1, To: 2}},
		"one at the end of the other one": {span(0, 0, 1, 3), span(1, 0, 2, 5), span(0, 1, 4, 6)},
	} {
		if !Right(l) {
			t.Error(name)
		}
	}
}

// P7.2: each reason for which a list isn't right, alone.
func TestWrongLists(t *testing.T) {
	for name, l := range map[string][]api.Call{
		"From 0":                              {span(0, 0, 0, 1)},
		"From below 0":                        {span(0, 0, -1, 1)},
		"the least From":                      {span(0, 0, math.MinInt, 1)},
		"all zeros":                           {{}},
		"From 0 behind another one":           {span(0, 0, 1, 2), span(1, 0, 0, 3)},
		"To at From":                          {span(0, 0, 2, 2)},
		"To below From":                       {span(0, 0, 3, 2)},
		"To at From, the last moment":         {span(0, 0, math.MaxInt, math.MaxInt)},
		"didn't end":                          {span(0, 0, 1, 0)},
		"the second one didn't end":           {span(0, 0, 1, 3), span(1, 0, 2, 0)},
		"To below 0":                          {span(0, 0, 1, -1)},
		"To below From, behind a right one":   {span(0, 0, 1, 3), span(1, 0, 5, 4)},
		"two Froms alike":                     {span(0, 0, 1, 2), span(1, 0, 1, 3)},
		"two Tos alike":                       {span(0, 0, 1, 3), span(1, 0, 2, 3)},
		"a From at a To ahead":                {span(0, 0, 1, 2), span(1, 0, 2, 3)},
		"a From at a To further ahead":        {span(0, 0, 1, 5), span(1, 0, 2, 3), span(2, 0, 5, 6)},
		"two Tos alike, one between":          {span(0, 0, 1, 6), span(1, 0, 2, 3), span(2, 0, 4, 6)},
		"the same call twice":                 {span(0, 0, 1, 2), span(0, 0, 1, 2)},
		"falling by From":                     {span(0, 0, 3, 4), span(1, 0, 1, 2)},
		"falling by From, at the end":         {span(0, 0, 1, 2), span(1, 0, 5, 6), span(2, 0, 3, 4)},
		"Place 1 first":                       {span(0, 1, 1, 2)},
		"Place -1 first":                      {span(0, -1, 1, 2)},
		"the greatest Place first":            {span(0, math.MaxInt, 1, 2)},
		"Place 0 twice":                       {span(0, 0, 1, 2), span(0, 0, 3, 4)},
		"Place 1 left out":                    {span(0, 0, 1, 2), span(0, 2, 3, 4)},
		"Places falling":                      {span(0, 0, 1, 2), span(0, 1, 3, 4), span(0, 0, 5, 6)},
		"Place 1 of a thread's first":         {span(0, 0, 1, 2), span(1, 1, 3, 4)},
		"Place 1 first of 0, then 0":          {span(0, 1, 1, 2), span(0, 0, 3, 4)},
		"Places of two threads, counted once": {span(0, 0, 1, 2), span(1, 0, 3, 4), span(0, 2, 5, 6)},
		"a thread's calls crosswise":          {span(0, 0, 1, 3), span(0, 1, 2, 4)},
		"a thread's call within its first":    {span(0, 0, 1, 4), span(0, 1, 2, 3)},
		"overlap behind another thread's":     {span(0, 0, 1, 5), span(1, 0, 2, 3), span(0, 1, 4, 6)},
		"overlap of the second and third":     {span(0, 0, 1, 2), span(0, 1, 3, 5), span(0, 2, 4, 6)},
	} {
		if Right(l) {
			t.Error(name)
		}
	}
}

// isRight works out by the chapter's words, pair by pair, whether a list is right.
func isRight(l []api.Call) bool {
	for i, a := range l {
		place := 0
		if a.From < 1 || a.From >= a.To {
			return false
		}
		for _, b := range l[:i] {
			if b.From >= a.From || b.To == a.From || b.To == a.To || b.Thread == a.Thread && b.To >= a.From {
				return false
			}
			if b.Thread == a.Thread {
				place++
			}
		}
		// A From that is the To of a call behind it stands there as its moment.
		for _, b := range l[i+1:] {
			if b.To == a.From || b.From == a.To {
				return false
			}
		}
		if a.Place != place {
			return false
		}
	}
	return true
}

// eachList calls what it is handed with all lists of at most so many of these calls.
func eachList(calls []api.Call, longest int, do func(l []api.Call)) {
	var row func(l []api.Call)
	row = func(l []api.Call) {
		do(l)
		if len(l) == longest {
			return
		}
		for _, c := range calls {
			row(append(l[:len(l):len(l)], c))
		}
	}
	row(nil)
}

// P7.2: all short lists of two threads' calls, most of which aren't right.
func TestRightOfAllShortLists(t *testing.T) {
	var calls []api.Call
	for thread := range 2 {
		for place := range 2 {
			for from := range 5 {
				for to := from; to <= 6; to++ {
					calls = append(calls, span(thread, place, from, to))
				}
			}
		}
	}
	counts := map[bool]int{}
	eachList(calls, 3, func(l []api.Call) {
		want := isRight(l)
		if Right(l) != want {
			t.Fatalf("%v: %v", l, !want)
		}
		counts[want]++
	})
	if counts[true] < 50 || counts[false] < 1000 {
		t.Fatal(counts)
	}
}

// P7.2: what is told of ordinary calls, by what is done of them.
func TestMinimal(t *testing.T) {
	// 0 lasts long; 1, 2 and 3 come one behind the other; 4 is behind all.
	l := []api.Call{span(0, 0, 1, 8), span(1, 0, 2, 3), span(1, 1, 4, 5), span(1, 2, 6, 7), span(0, 1, 9, 10)}
	for _, c := range []struct {
		done []bool
		want []int
	}{
		{nil, []int{0, 1}},
		{[]bool{}, []int{0, 1}},
		{[]bool{false}, []int{0, 1}},
		{[]bool{true}, []int{1}},
		{[]bool{false, true}, []int{0, 2}},
		{[]bool{true, true}, []int{2}},
		{[]bool{false, true, true, true}, []int{0}},
		{[]bool{false, false, true, true}, []int{0, 1}},
		{[]bool{false, true, false, true, true}, []int{0, 2}},
		{[]bool{true, true, true, true}, []int{4}},
		{[]bool{true, true, true, true, false}, []int{4}},
		{[]bool{true, true, true, true, true}, nil},
		{[]bool{true, true, true, true, true, false, true, false}, nil},
		{[]bool{false, true, true, false, false, true, true, true}, []int{0, 3}},
	} {
		if got := Minimal(l, c.done); !slices.Equal(got, c.want) {
			t.Errorf("%v: %v, want %v", c.done, got, c.want)
		}
	}
	for _, done := range [][]bool{nil, {}, {false}, {true}, {true, false}} {
		if got := Minimal(nil, done); len(got) != 0 {
			t.Errorf("of none, %v: %v", done, got)
		}
	}
}

// P7.2: at the bound: a call that ends at the moment at which another one begins isn't ahead of it.
func TestMinimalAtTheBound(t *testing.T) {
	for from, want := range map[int][]int{4: {0, 1}, 5: {0, 1}, 6: {0}} {
		if got := Minimal([]api.Call{span(0, 0, 1, 5), span(1, 0, from, 9)}, nil); !slices.Equal(got, want) {
			t.Errorf("From %d: %v", from, got)
		}
	}
}

// P7.2: a call isn't another one than itself, though it ends ahead of its beginning.
func TestMinimalOfCallsThatEndAheadOfTheirBeginning(t *testing.T) {
	for _, c := range []struct {
		l    []api.Call
		want []int
	}{
		{[]api.Call{span(0, 0, 5, 2)}, []int{0}},
		{[]api.Call{span(0, 0, math.MaxInt, math.MinInt)}, []int{0}},
		{[]api.Call{span(0, 0, 5, 2), span(1, 0, 1, 9)}, []int{0, 1}},
		{[]api.Call{span(0, 0, 5, 2), span(1, 0, 1, 4)}, []int{1}},
		{[]api.Call{span(0, 0, 5, 2), span(1, 0, 5, 2)}, nil},
		{[]api.Call{span(0, 0, 5, 2), span(1, 0, 5, 3)}, nil},
		{[]api.Call{{}, {}, {}}, []int{0, 1, 2}},
	} {
		if got := Minimal(c.l, nil); !slices.Equal(got, c.want) {
			t.Errorf("%v: %v, want %v", c.l, got, c.want)
		}
	}
}

// minimalOf works out by the chapter's words, pair by pair, which calls are minimal.
func minimalOf(l []api.Call, done []bool) []int {
	isDone := func(i int) bool { return i < len(done) && done[i] }
	var want []int
	for i, c := range l {
		behind := isDone(i)
		for j, other := range l {
			behind = behind || j != i && !isDone(j) && other.To < c.From
		}
		if !behind {
			want = append(want, i)
		}
	}
	return want
}

// P7.2: all short lists of calls, right or not, in any order, with all short lists of what is done.
func TestMinimalOfAllShortLists(t *testing.T) {
	var calls []api.Call
	for from := range 4 {
		for to := range 4 {
			calls = append(calls, span(0, 0, from, to))
		}
	}
	var dones [][]bool
	for length := range 5 {
		for bits := range 1 << length {
			done := make([]bool, length)
			for i := range done {
				done[i] = bits>>i&1 == 1
			}
			dones = append(dones, done)
		}
	}
	eachList(calls, 3, func(l []api.Call) {
		for _, done := range dones {
			if got, want := Minimal(l, done), minimalOf(l, done); !slices.Equal(got, want) {
				t.Fatalf("%v %v: %v, want %v", l, done, got, want)
			}
		}
	})
}

// P7.2, R4: neither list is changed, and what lies behind one's length isn't read; what is told is the asker's.
func TestListsAreLeft(t *testing.T) {
	l := []api.Call{span(0, 0, 3, 6), span(1, 0, 4, 5), span(2, 0, 7, 8), span(0, 9, 1, 2)}
	done := []bool{true, false, false, true, true}
	calls, flags := slices.Clone(l), slices.Clone(done)
	if !Right(l[:3]) || Right(l) {
		t.Fatal("Right")
	}
	for range 2 {
		got := Minimal(l[:3], done[:1])
		if !slices.Equal(got, []int{1}) {
			t.Fatal(got)
		}
		got[0] = 77
		_ = append(got, 78)
	}
	if got := Minimal(l[:3], done[:0]); !slices.Equal(got, []int{0, 1}) {
		t.Fatal(got)
	}
	if got := Minimal(l, done[:3]); !slices.Equal(got, []int{3}) {
		t.Fatal(got)
	}
	if !slices.Equal(l, calls) || !slices.Equal(done, flags) {
		t.Fatal(l, done)
	}
}
