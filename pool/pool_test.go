package pool

import (
	"math"
	"runtime"
	"slices"
	"strconv"
	"testing"
	"weak"

	"bellman/api"
)

// noPlaces are numbers that no place has, however many there are.
var noPlaces = []int{0, -1, -2, -65535, -65536, -65537, math.MinInt, math.MinInt + 1, 65537, 65538, 1 << 32, 1<<32 + 1, -1 << 32, math.MaxInt - 1, math.MaxInt}

// far are stamps that no place of a short test has.
var far = []int{-1, -2, math.MinInt, 1 << 20, 1 << 32, 1<<32 + 1, -1 << 32, math.MaxInt}

// take takes a place, which must go, and holds its number and stamp against what is wanted.
func take[T any](t *testing.T, p *Pool[T], x T, id, stamp int) {
	t.Helper()
	gotID, gotStamp, e := p.Take(x)
	if gotID != id || gotStamp != stamp || e != api.OK {
		t.Fatalf("Take: %d, %d, %d, want %d, %d, 0", gotID, gotStamp, e, id, stamp)
	}
}

// full tries to take a place, which mustn't go.
func full[T any](t *testing.T, p *Pool[T], x T) {
	t.Helper()
	for range 2 {
		if id, stamp, e := p.Take(x); id != 0 || stamp != 0 || e != api.ErrFull {
			t.Fatalf("Take of a full pool: %d, %d, %d", id, stamp, e)
		}
	}
}

// give gives places back, one by one, each of which must be answered that.
func give[T any](t *testing.T, p *Pool[T], want api.Errno, ids ...int) {
	t.Helper()
	for _, id := range ids {
		if got := p.Give(id); got != want {
			t.Fatalf("Give(%d): %d, want %d", id, got, want)
		}
	}
}

// get asks what a place has, and holds the answer against what is wanted.
func get[T comparable](t *testing.T, p *Pool[T], id, stamp int, want T, wantError api.Errno) {
	t.Helper()
	if got, e := p.Get(id, stamp); got != want || e != wantError {
		t.Fatalf("Get(%d, %d): %v, %d, want %v, %d", id, stamp, got, e, want, wantError)
	}
}

// row is what a place is to be: what it has if it is taken, and its stamp.
type row struct {
	x     string
	stamp int
	taken bool
}

// check asks a pool all that may be asked, twice, as asking changes nothing: these are its places, and there are no others.
func check(t *testing.T, what string, p *Pool[string], rows ...row) {
	t.Helper()
	live := 0
	for i, r := range rows {
		checkPlace(t, what, p, i+1, r)
		if r.taken {
			live++
		}
	}
	for _, id := range append([]int{len(rows) + 1, len(rows) + 2, -len(rows), len(rows) + 1<<32}, noPlaces...) {
		checkNoPlace(t, what, p, id)
	}
	for range 2 {
		if p.Live() != live || p.Len() != len(rows) {
			t.Fatalf("%s: Live %d, Len %d, want %d, %d", what, p.Live(), p.Len(), live, len(rows))
		}
	}
}

// checkPlace asks for a place that there is, with its stamp and with others.
func checkPlace(t *testing.T, what string, p *Pool[string], id int, r row) {
	t.Helper()
	for range 2 {
		if got := p.Stamp(id); got != r.stamp {
			t.Fatalf("%s: Stamp(%d) %d, want %d", what, id, got, r.stamp)
		}
		if r.taken {
			get(t, p, id, r.stamp, r.x, api.OK)
		} else {
			get(t, p, id, r.stamp, "", api.ErrState)
		}
		for _, stamp := range append([]int{r.stamp - 1, r.stamp + 1, r.stamp + 1<<32}, far...) {
			get(t, p, id, stamp, "", api.ErrState)
		}
	}
}

// checkNoPlace asks for a place that there isn't, whatever the stamp.
func checkNoPlace(t *testing.T, what string, p *Pool[string], id int) {
	t.Helper()
	if got := p.Stamp(id); got != -1 {
		t.Fatalf("%s: Stamp(%d) %d, want -1", what, id, got)
	}
	for _, stamp := range append([]int{0, 1}, far...) {
		get(t, p, id, stamp, "", api.ErrNone)
	}
}

// P10.1: a new pool has no places, whatever its limit.
func TestNew(t *testing.T) {
	for _, limit := range []int{math.MinInt, -1, 0, 1, 2, 65535, 65536, 65537, math.MaxInt} {
		p := New[string](limit)
		if p == nil {
			t.Fatalf("New(%d): nil", limit)
		}
		check(t, "New", p)
		give(t, p, api.ErrNone, 0, 1, 2)
		give(t, p, api.ErrNone, noPlaces...)
		check(t, "Give", p)
	}
}

// P10.1: as many places as the limit says, none below 0, 65,536 of more, numbered from 1 on; and none more once all were given back.
func TestLimits(t *testing.T) {
	for _, x := range []struct{ limit, want int }{
		{math.MinInt, 0}, {math.MinInt + 1, 0}, {-1 << 32, 0}, {1 - 1<<32, 0}, {-65536, 0}, {-2, 0}, {-1, 0},
		{0, 0}, {1, 1}, {2, 2}, {3, 3}, {64, 64}, {1000, 1000}, {65534, 65534}, {65535, 65535}, {65536, 65536},
		{65537, 65536}, {65538, 65536}, {1 << 17, 65536}, {1 << 32, 65536}, {1<<32 + 1, 65536}, {math.MaxInt, 65536},
	} {
		p := New[int](x.limit)
		for i := range x.want {
			take(t, p, -i, i+1, 0)
		}
		full(t, p, 7)
		if p.Live() != x.want || p.Len() != x.want {
			t.Fatalf("New(%d): Live %d, Len %d", x.limit, p.Live(), p.Len())
		}
		for i := range x.want {
			get(t, p, i+1, 0, -i, api.OK)
			give(t, p, api.OK, i+1)
		}
		for i := range x.want {
			take(t, p, i, x.want-i, 1)
		}
		full(t, p, 7)
		if p.Live() != x.want || p.Len() != x.want {
			t.Fatalf("New(%d), taken again: Live %d, Len %d", x.limit, p.Live(), p.Len())
		}
	}
}

// P10.1: the chapter's example.
func TestExample(t *testing.T) {
	p := New[string](1)
	take(t, p, "a", 1, 0)
	check(t, "Take", p, row{"a", 0, true})
	give(t, p, api.OK, 1)
	check(t, "Give", p, row{"", 1, false})
	take(t, p, "b", 1, 1)
	check(t, "Take again", p, row{"b", 1, true})
}

// P10.1: of a pool that may have none, none is ever taken.
func TestNoPlaces(t *testing.T) {
	for _, limit := range []int{0, -1, -65536, math.MinInt} {
		p := New[string](limit)
		for range 3 {
			full(t, p, "a")
			give(t, p, api.ErrNone, 0, 1, -1, limit)
			check(t, "none", p)
		}
	}
}

// P10.1: a full pool takes nothing and stays as it is; once a place is given back, that one is taken, and it is full again.
func TestFull(t *testing.T) {
	p := New[string](3)
	take(t, p, "a", 1, 0)
	take(t, p, "b", 2, 0)
	check(t, "not full", p, row{"a", 0, true}, row{"b", 0, true})
	take(t, p, "c", 3, 0)
	full(t, p, "d")
	check(t, "full", p, row{"a", 0, true}, row{"b", 0, true}, row{"c", 0, true})
	give(t, p, api.OK, 2)
	check(t, "Give", p, row{"a", 0, true}, row{"", 1, false}, row{"c", 0, true})
	take(t, p, "e", 2, 1)
	full(t, p, "f")
	check(t, "full again", p, row{"a", 0, true}, row{"e", 1, true}, row{"c", 0, true})
	give(t, p, api.OK, 3, 1)
	take(t, p, "g", 1, 1)
	take(t, p, "h", 3, 1)
	full(t, p, "i")
	check(t, "full once more", p, row{"g", 1, true}, row{"e", 1, true}, row{"h", 1, true})
}

// P10.1: several places are given back, in each order, and taken again: the one that was given back last comes first, and new ones come behind all of them.
func TestGivenBackLastIsTakenFirst(t *testing.T) {
	const n = 5
	var rows func(done []int)
	rows = func(done []int) {
		p := New[string](n + 1)
		for id := 1; id <= n; id++ {
			take(t, p, "", id, 0)
		}
		give(t, p, api.OK, done...)
		for i := range done {
			take(t, p, "", done[len(done)-1-i], 1)
		}
		take(t, p, "", n+1, 0)
		full(t, p, "")
		for id := 1; id <= n; id++ {
			if !slices.Contains(done, id) {
				rows(append(done[:len(done):len(done)], id))
			}
		}
	}
	rows(nil)
}

// P10.1: places are given back while others are taken again: the one that was given back last, of those that are free still.
func TestGivenBackInBetween(t *testing.T) {
	p := New[string](6)
	for id := 1; id <= 4; id++ {
		take(t, p, strconv.Itoa(id), id, 0)
	}
	give(t, p, api.OK, 3, 1)
	take(t, p, "a", 1, 1)
	give(t, p, api.OK, 4)
	check(t, "3 and 4 are free", p, row{"a", 1, true}, row{"2", 0, true}, row{"", 1, false}, row{"", 1, false})
	take(t, p, "b", 4, 1)
	give(t, p, api.OK, 4, 2, 1)
	take(t, p, "c", 1, 2)
	take(t, p, "d", 2, 1)
	take(t, p, "e", 4, 2)
	take(t, p, "f", 3, 1)
	take(t, p, "g", 5, 0)
	check(t, "5 of 6", p, row{"c", 2, true}, row{"d", 1, true}, row{"f", 1, true}, row{"e", 2, true}, row{"g", 0, true})
	give(t, p, api.OK, 5)
	take(t, p, "h", 5, 1)
	take(t, p, "i", 6, 0)
	full(t, p, "j")
}

// P10.1: a place that is free isn't given back once more: nothing changes, and it isn't taken twice behind it.
func TestGivenBackTwice(t *testing.T) {
	p := New[string](2)
	take(t, p, "a", 1, 0)
	take(t, p, "b", 2, 0)
	give(t, p, api.OK, 1)
	for range 3 {
		give(t, p, api.ErrNone, 1)
		check(t, "twice", p, row{"", 1, false}, row{"b", 0, true})
	}
	give(t, p, api.OK, 2)
	give(t, p, api.ErrNone, 1, 2, 2, 1)
	check(t, "both", p, row{"", 1, false}, row{"", 1, false})
	take(t, p, "c", 2, 1)
	take(t, p, "d", 1, 1)
	full(t, p, "e")
	check(t, "both again", p, row{"d", 1, true}, row{"c", 1, true})
}

// P10.1: a place that there isn't, be it 0, below it or behind the last, isn't given back: nothing changes by it.
func TestGivenBackThatIsNotThere(t *testing.T) {
	p := New[string](4)
	take(t, p, "a", 1, 0)
	take(t, p, "b", 2, 0)
	take(t, p, "c", 3, 0)
	give(t, p, api.OK, 2)
	rows := []row{{"a", 0, true}, {"", 1, false}, {"c", 0, true}}
	for _, id := range append([]int{4, 5, -3, -4, 3 + 1<<32}, noPlaces...) {
		give(t, p, api.ErrNone, id)
		check(t, "no place", p, rows...)
	}
	take(t, p, "d", 2, 1)
	take(t, p, "e", 4, 0)
	full(t, p, "f")
}

// P10.1: what a place had is gone when it is given back, and does not come again with the next stamp.
func TestWhatItHadIsGone(t *testing.T) {
	p := New[string](2)
	take(t, p, "a", 1, 0)
	give(t, p, api.OK, 1)
	for _, stamp := range []int{0, 1, 2} {
		get(t, p, 1, stamp, "", api.ErrState)
	}
	take(t, p, "", 1, 1)
	get(t, p, 1, 1, "", api.OK)
	get(t, p, 1, 0, "", api.ErrState)
}

// thing is large enough that the memory of one is its own.
type thing struct {
	row [64]int
}

// takeThing takes a place for a new thing, and tells what shows whether anybody has a hold on it.
func takeThing(p *Pool[*thing]) weak.Pointer[thing] {
	x := new(thing)
	p.Take(x)
	return weak.Make(x)
}

// P10.1: the pool has no hold on what a place had once that is given back; on what a place has, it has one.
func TestNoHoldOnWhatIsGone(t *testing.T) {
	p := New[*thing](2)
	first, second := takeThing(p), takeThing(p)
	runtime.GC()
	if first.Value() == nil || second.Value() == nil {
		t.Fatal("what is taken is gone")
	}
	give(t, p, api.OK, 1)
	runtime.GC()
	runtime.GC()
	if first.Value() != nil {
		t.Error("what was given back is there still")
	}
	if x, e := p.Get(2, 0); x == nil || x != second.Value() || e != api.OK {
		t.Error("what is taken is gone")
	}
	runtime.KeepAlive(p)
}

// P10.2: Get's errors in their order, and Stamp, of places that are taken, free, and not there.
func TestGetAndStamp(t *testing.T) {
	p := New[string](4)
	for i, x := range []string{"a", "b", "c"} {
		take(t, p, x, i+1, 0)
	}
	give(t, p, api.OK, 2, 3)
	take(t, p, "d", 3, 1)
	for _, x := range []struct {
		id, stamp int
		want      string
		e         api.Errno
	}{
		{1, 0, "a", api.OK},
		{1, 1, "", api.ErrState},
		{1, -1, "", api.ErrState},
		{2, 0, "", api.ErrState},
		{2, 1, "", api.ErrState},
		{2, 2, "", api.ErrState},
		{3, 1, "d", api.OK},
		{3, 0, "", api.ErrState},
		{3, 2, "", api.ErrState},
		{3, 1 + 1<<32, "", api.ErrState},
		{4, 0, "", api.ErrNone},
		{4, -1, "", api.ErrNone},
		{5, 0, "", api.ErrNone},
		{0, 0, "", api.ErrNone},
		{0, -1, "", api.ErrNone},
		{0, 1, "", api.ErrNone},
		{-1, 0, "", api.ErrNone},
		{-1, -1, "", api.ErrNone},
		{1 + 1<<32, 0, "", api.ErrNone},
		{math.MaxInt, math.MaxInt, "", api.ErrNone},
		{math.MinInt, math.MinInt, "", api.ErrNone},
	} {
		get(t, p, x.id, x.stamp, x.want, x.e)
	}
	for _, x := range []struct{ id, want int }{{1, 0}, {2, 1}, {3, 1}, {4, -1}, {5, -1}, {0, -1}, {-1, -1}, {-3, -1}, {65536, -1}, {65537, -1}, {math.MaxInt, -1}, {math.MinInt, -1}} {
		if got := p.Stamp(x.id); got != x.want {
			t.Fatalf("Stamp(%d): %d, want %d", x.id, got, x.want)
		}
	}
	check(t, "asked", p, row{"a", 0, true}, row{"", 1, false}, row{"d", 1, true})
}

// P10.2: Live falls when a place is given back, Len doesn't.
func TestLiveAndLen(t *testing.T) {
	p := New[string](3)
	for i, x := range []struct{ give, live, length int }{
		{0, 1, 1}, {1, 0, 1}, {0, 1, 1}, {0, 2, 2}, {2, 1, 2}, {2, 1, 2}, {3, 1, 2}, {0, 2, 2}, {0, 3, 3}, {0, 3, 3}, {2, 2, 3}, {1, 1, 3}, {3, 0, 3}, {0, 1, 3},
	} {
		if x.give == 0 {
			p.Take("")
		} else {
			p.Give(x.give)
		}
		if p.Live() != x.live || p.Len() != x.length {
			t.Fatalf("%d: Live %d, Len %d, want %d, %d", i, p.Live(), p.Len(), x.live, x.length)
		}
	}
}

// P10.1, P10.2: of a nil *Pool: ErrFull, ErrNone, -1, 0, zero values beside errors; nothing is done, also behind each call.
func TestNil(t *testing.T) {
	var p *Pool[string]
	for range 2 {
		full(t, p, "a")
		check(t, "nil", p)
		give(t, p, api.ErrNone, 1, 2, 65536)
		give(t, p, api.ErrNone, noPlaces...)
		for _, stamp := range []int{-1, 0, 1} {
			get(t, p, 1, stamp, "", api.ErrNone)
		}
		check(t, "nil", p)
	}
	var numbers *Pool[int]
	full(t, numbers, 7)
	get(t, numbers, 1, 0, 0, api.ErrNone)
}

// P10.1, P10.2: a pool is of any type, also of one whose values can't be compared; beside an error stands its zero value.
func TestAnyType(t *testing.T) {
	lists := New[[]int](2)
	take(t, lists, []int{1, 2}, 1, 0)
	take(t, lists, nil, 2, 0)
	if l, e := lists.Get(1, 0); !slices.Equal(l, []int{1, 2}) || e != api.OK {
		t.Error(l, e)
	}
	if l, e := lists.Get(2, 0); l != nil || e != api.OK {
		t.Error(l, e)
	}
	if l, e := lists.Get(1, 1); l != nil || e != api.ErrState {
		t.Error(l, e)
	}
	functions := New[func() int](1)
	take(t, functions, func() int { return 7 }, 1, 0)
	if f, e := functions.Get(1, 0); e != api.OK || f() != 7 {
		t.Error(e)
	}
	give(t, functions, api.OK, 1)
	if f, e := functions.Get(1, 1); f != nil || e != api.ErrState {
		t.Error(e)
	}
	messages := New[api.Msg](1)
	take(t, messages, api.Msg{Topic: "a", Payload: "b", Kept: true}, 1, 0)
	get(t, messages, 1, 0, api.Msg{Topic: "a", Payload: "b", Kept: true}, api.OK)
	get(t, messages, 1, 1, api.Msg{}, api.ErrState)
	get(t, messages, 2, 0, api.Msg{}, api.ErrNone)
	values := New[any](2)
	take(t, values, any([]int{1}), 1, 0)
	take(t, values, nil, 2, 0)
	if x, e := values.Get(2, 0); x != nil || e != api.OK {
		t.Error(x, e)
	}
	nothing := New[struct{}](1)
	take(t, nothing, struct{}{}, 1, 0)
	full(t, nothing, struct{}{})
	get(t, nothing, 1, 0, struct{}{}, api.OK)
	get(t, nothing, 1, 1, struct{}{}, api.ErrState)
}

// P10.1: pools know nothing of each other.
func TestPoolsOnTheirOwn(t *testing.T) {
	a, b := New[string](1), New[string](1)
	take(t, a, "a", 1, 0)
	check(t, "other", b)
	take(t, b, "b", 1, 0)
	give(t, a, api.OK, 1)
	check(t, "other", b, row{"b", 0, true})
	check(t, "one", a, row{"", 1, false})
}

// taking is what one Take told.
type taking struct{ id, stamp int }

// P10.3: many takings and givings back of one place in turn: each has a stamp of its own, 1 more than the one ahead, and the pool is no greater by it.
func TestTakingsOfOnePlace(t *testing.T) {
	const n = 100000
	p := New[int](1)
	for i := range n {
		take(t, p, i, 1, i)
		get(t, p, 1, i, i, api.OK)
		get(t, p, 1, i-1, 0, api.ErrState)
		give(t, p, api.OK, 1)
	}
	if p.Len() != 1 || p.Live() != 0 || p.Stamp(1) != n {
		t.Fatal(p.Len(), p.Live(), p.Stamp(1))
	}
}

// P10.3: no two of many takings are alike, whatever was given back in between, and whatever was tried to be; what was told ahead never shows what another taking has.
func TestNoTwoTakingsAlike(t *testing.T) {
	const long = 20000
	for _, limit := range []int{1, 2, 3, 7, 64, 1000} {
		for seed := range 4 {
			p := New[int](limit)
			seen, held := map[taking]int{}, map[int]taking{}
			next := uint64(seed*1000 + limit + 1)
			for i := range long {
				next = next*6364136223846793005 + 1442695040888963407
				if id, stamp, e := p.Take(i); e == api.OK {
					one := taking{id, stamp}
					if was, ok := seen[one]; ok {
						t.Fatalf("limit %d: taking %d is %d, %d, as taking %d was", limit, i, id, stamp, was)
					}
					seen[one], held[id] = i, one
				}
				for range int(next>>33) % 3 {
					next = next*6364136223846793005 + 1442695040888963407
					giveHeld(t, p, held, int(next>>40)%(limit+2))
				}
			}
			for one, i := range seen {
				if held[one.id] == one {
					get(t, p, one.id, one.stamp, i, api.OK)
				} else {
					get(t, p, one.id, one.stamp, 0, api.ErrState)
				}
			}
		}
	}
}

// giveHeld gives a place back twice: what isn't held can't be.
func giveHeld(t *testing.T, p *Pool[int], held map[int]taking, id int) {
	t.Helper()
	if _, ok := held[id]; ok {
		give(t, p, api.OK, id)
		delete(held, id)
	}
	give(t, p, api.ErrNone, id)
}

// spot is a place, as the chapter's words have it.
type spot struct {
	row
	// given is the moment at which it was given back last.
	given int
}

// words is what the chapter says, as plainly as it can be done: all places, and of those that are free the one is looked for that was given back last.
type words struct {
	limit, moment int
	spots         []spot
}

func (w *words) take(x string) (id, stamp int, e api.Errno) {
	for i, s := range w.spots {
		if !s.taken && (id == 0 || s.given > w.spots[id-1].given) {
			id = i + 1
		}
	}
	if id == 0 && len(w.spots) < w.limit {
		w.spots = append(w.spots, spot{})
		id = len(w.spots)
	}
	if id == 0 {
		return 0, 0, api.ErrFull
	}
	s := &w.spots[id-1]
	s.x, s.taken = x, true
	return id, s.stamp, api.OK
}

func (w *words) give(id int) api.Errno {
	if id < 1 || id > len(w.spots) || !w.spots[id-1].taken {
		return api.ErrNone
	}
	w.moment++
	s := &w.spots[id-1]
	*s = spot{row{"", s.stamp + 1, false}, w.moment}
	return api.OK
}

// both does one deed on both, a Take if id is 0 and a Give else, and holds the answers against each other; taking tells what was taken, if anything.
func both(t *testing.T, p *Pool[string], w *words, x string, id int) (taking, bool) {
	t.Helper()
	if id != 0 {
		if got, want := p.Give(id), w.give(id); got != want {
			t.Fatalf("Give(%d): %d, want %d", id, got, want)
		}
		return taking{}, false
	}
	gotID, gotStamp, got := p.Take(x)
	wantID, wantStamp, want := w.take(x)
	if gotID != wantID || gotStamp != wantStamp || got != want {
		t.Fatalf("Take: %d, %d, %d, want %d, %d, %d", gotID, gotStamp, got, wantID, wantStamp, want)
	}
	return taking{gotID, gotStamp}, got == api.OK
}

// checkBoth asks a pool all that may be asked, and holds it against the words.
func checkBoth(t *testing.T, p *Pool[string], w *words) {
	t.Helper()
	var rows []row
	for _, s := range w.spots {
		rows = append(rows, s.row)
	}
	check(t, "both", p, rows...)
}

// P10.1 to P10.3: all short rows of takings and givings back, held against the chapter's words; no two takings of a row are alike.
func TestAllShortRows(t *testing.T) {
	const longest = 6
	for limit := range 4 {
		var deeds func(done []int)
		deeds = func(done []int) {
			if len(done) < longest {
				for id := range limit + 2 {
					deeds(append(done[:len(done):len(done)], id))
				}
				return
			}
			p, w := New[string](limit), &words{limit: limit}
			seen := map[taking]bool{}
			for i, id := range done {
				one, ok := both(t, p, w, string(rune('a'+i)), id)
				if ok && seen[one] {
					t.Fatalf("%v: %v twice", done, one)
				}
				seen[one] = true
			}
			checkBoth(t, p, w)
		}
		deeds(nil)
	}
}

// P10.1 to P10.3: long rows of takings and givings back, held against the chapter's words after each deed.
func TestLongRows(t *testing.T) {
	const long = 1500
	for _, limit := range []int{-1, 0, 1, 2, 3, 5, 16} {
		for seed := range 3 {
			p, w := New[string](limit), &words{limit: limit}
			next := uint64(seed*100 + limit + 2)
			for i := range long {
				next = next*6364136223846793005 + 1442695040888963407
				// The longer the row, the more often places are taken, then given back, in turn.
				id := 0
				if int(next>>33)%8 < 3+i/200%4 {
					id = int(next>>40)%(max(limit, 0)+3) - 1
				}
				both(t, p, w, strconv.Itoa(i), id)
				checkBoth(t, p, w)
			}
		}
	}
}

// R6: the same calls have the same answers.
func TestSameAgain(t *testing.T) {
	play := func() []int {
		p := New[int](5)
		var all []int
		for i := range 300 {
			id, stamp, e := p.Take(i)
			all = append(all, id, stamp, int(e), int(p.Give(i*7%6)), p.Live(), p.Len())
		}
		return all
	}
	if !slices.Equal(play(), play()) {
		t.Fatal("another answer")
	}
}
