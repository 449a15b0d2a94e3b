package schedule

import (
	"cmp"
	"math"
	"slices"

	"keelblock/api"
)

// Shortest returns the first one of the shortest plans.
func Shortest(w api.Work) ([]api.Slot, api.Errno) {
	s, _, e := firstBest(w, func(_, days int) int { return days })
	return s, e
}

// Cheapest returns the first one of the cheapest plans, and its cost.
func Cheapest(w api.Work) ([]api.Slot, int, api.Errno) {
	return firstBest(w, valueOfCost(w))
}

// valueOfCost returns the function that adds what a duration costs to the cost of the people.
func valueOfCost(w api.Work) func(cost, days int) int {
	return func(cost, days int) int { return cost + costOfDays(w, days) }
}

// firstBest returns the first one of the plans with the least value, and this value.
func firstBest(w api.Work, value func(cost, days int) int) ([]api.Slot, int, api.Errno) {
	c, e := chartOf(w)
	switch {
	case e != api.OK:
		return nil, 0, e
	case c.isLarge():
		return nil, 0, api.ErrLarge
	}
	s := newSearch(c, value)
	best := s.best([]outline{s.start()})
	if !best.found {
		return nil, 0, api.ErrNone
	}
	return c.slots(best.spots), best.value, api.OK
}

// isLarge reports whether work is too large for a search.
func (c chart) isLarge() bool { return len(c.Items) > api.MaxExact || c.Last > lastSearched }

func (c chart) slots(l spotList) []api.Slot { return plan{c, l[:len(c.Items)]}.slots() }

// A record is the best plan that was found so far.
type record struct {
	found  bool
	spots  spotList
	value  int
	enough int // the value at which the search may end
}

// offer keeps a plan, and returns the greatest value of plans that would be better.
func (r *record) offer(spots spotList, value int) (most int) {
	r.found, r.spots, r.value = true, spots, value
	if value <= r.enough {
		return -1
	}
	return value - 1
}

// best returns the first one of the best plans that go on with one of several outlines.
func (s *search) best(all []outline) record {
	var equal []outline
	var records []record
	most := math.MaxInt
	for _, o := range all {
		var r record
		s.run(o, most, r.offer)
		if !r.found {
			continue
		}
		if r.value < most {
			equal, records, most = nil, nil, r.value
		}
		equal, records = append(equal, o), append(records, r)
	}
	var best record
	for i, o := range equal {
		r := s.first(o, records[i])
		if !best.found || slices.CompareFunc(r.spots[:], best.spots[:], compareSpots) < 0 {
			best = r
		}
	}
	return best
}

func compareSpots(a, b spot) int {
	return cmp.Or(cmp.Compare(a.mode, b.mode), cmp.Compare(a.day, b.day))
}

// first returns the first one of the best plans that go on with an outline, given one of them.
func (s *search) first(o outline, r record) record {
	narrow := *s
	narrow.jobs = slices.Clone(s.jobs)
	for i := range s.jobs {
		if o.open.has(i) {
			narrow.settle(&o, i, &r)
		}
	}
	return r
}

// settle gives an item of an outline the first spot with which it leads to a plan as good as that of
// the record, and keeps such a plan in the record.
func (s *search) settle(o *outline, i int, r *record) {
	for mode := range s.Items[i].Modes {
		w := s.way(i, mode)
		s.jobs[i] = s.jobs[i].with([]way{w})
		for s.advance(*o, i, w, r) {
		}
		if mode == r.spots[i].mode {
			s.put(o, i, w, r.spots[i].day)
			return
		}
	}
}

// advance looks for a plan as good as that of the record in which an item, done in this way, has a
// spot before the one there. It keeps the plan in the record, and reports whether there is one.
func (s *search) advance(o outline, i int, w way, r *record) bool {
	if w.mode == r.spots[i].mode {
		o.end[i] = min(o.end[i], r.spots[i].day+w.days-1)
	}
	next := record{enough: r.value}
	s.run(o, r.value, next.offer)
	if next.found {
		*r = next
	}
	return next.found
}
