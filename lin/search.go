package lin

import (
	"slices"

	"bellman/api"
	"bellman/hist"
)

// point is how far a search came: which places are done, and the key of the state then. What may come behind it hangs on nothing else.
type point struct {
	done [longest]bool
	key  string
}

// search goes through the orders of a history by the machine that it embeds, from the first order on.
type search[S any] struct {
	Machine[S]
	calls []api.Call
	done  [longest]bool
	// order has the places that are done, as they were taken.
	order []int
	// dead has the points behind which there is no order: without them, each would be gone through by every way that leads to it.
	dead map[point]bool
	// found is how many orders were counted.
	found int
}

// find tells whether what is done can be made an order, from that state on; the first such one is taken then.
func (s *search[S]) find(state S) bool {
	if s.whole() {
		return true
	}
	at := point{s.done, s.Key(state)}
	if s.dead[at] {
		return false
	}
	if s.each(state, s.unlike(s.next()), s.find) {
		return true
	}
	s.dead[at] = true
	return false
}

// tally counts the orders that what is done can be made, from that state on. It tells false, so that none is left out.
func (s *search[S]) tally(state S) bool {
	if s.whole() {
		s.found++
		return false
	}
	return s.each(state, s.next(), s.tally)
}

// each takes these places, one at a time, if their calls answer rightly, and goes on with the state then. It ends at the first one with which that tells true, and leaves it taken.
func (s *search[S]) each(state S, places []int, goOn func(state S) bool) bool {
	for _, i := range places {
		after, right := s.answers(state, s.calls[i])
		if !right {
			continue
		}
		s.take(i)
		if goOn(after) {
			return true
		}
		s.giveBack(i)
	}
	return false
}

// next tells the places, rising, that may come next.
func (s *search[S]) next() []int {
	return hist.Minimal(s.calls, s.done[:])
}

// unlike tells these places but those for which one further left stands.
func (s *search[S]) unlike(places []int) []int {
	var kept []int
	for _, j := range places {
		if !slices.ContainsFunc(kept, func(i int) bool { return standsFor(s.calls[i], s.calls[j]) }) {
			kept = append(kept, j)
		}
	}
	return kept
}

// standsFor tells whether, of two calls that may come next, there is no order that goes on with b if there is none that goes on with a. In one with b they could change places: the machine sees no difference, and b, which ends no sooner, is ahead of nothing that a isn't ahead of.
func standsFor(a, b api.Call) bool {
	return a.Op == b.Op && a.Answer == b.Answer && a.To <= b.To
}

// whole tells whether all calls are done.
func (s *search[S]) whole() bool {
	return len(s.order) == len(s.calls)
}

// take makes a place done, behind the others.
func (s *search[S]) take(i int) {
	s.done[i] = true
	s.order = append(s.order, i)
}

// giveBack undoes the last take, which was of that place.
func (s *search[S]) giveBack(i int) {
	s.done[i] = false
	s.order = s.order[:len(s.order)-1]
}
