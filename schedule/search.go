package schedule

import "keelblock/api"

// A search goes through the plans that go on with an outline. It takes the open items in the order
// of their first days, and each one on the first day on which it can begin then: a plan in which an
// item could begin sooner is neither longer nor more expensive when it does.
type search struct {
	chart
	jobs  []job
	value func(cost, days int) int // of a plan, which does not fall with the cost or the days
	most  int                      // the greatest value that is looked for
	offer func(spots spotList, value int) (most int)
	seen  map[state]int // the least cost at which a state was reached
}

func newSearch(c chart, value func(cost, days int) int) *search {
	s := &search{chart: c, value: value}
	for i := range c.Items {
		s.jobs = append(s.jobs, c.job(i))
	}
	return s
}

// run offers plans that go on with an outline. The value of the first one is at most most, that of
// each other one at most what offer returned for the one before. It ends when there are no more.
func (s *search) run(o outline, most int, offer func(spots spotList, value int) (most int)) {
	s.most, s.offer, s.seen = most, offer, map[state]int{}
	s.goOn(&o, 0)
}

// goOn gives spots to the open items, none of which begins before a day.
func (s *search) goOn(o *outline, day int) {
	if !s.isWorth(o, day) || s.isKnown(o, day) {
		return
	}
	if o.open == 0 {
		s.most = s.offer(o.spots, s.value(o.cost, o.days))
		return
	}
	for i, j := range s.jobs {
		if !o.open.has(i) || j.after&o.open != 0 {
			continue
		}
		for _, w := range j.ways {
			if days := s.firstDays(o, i, w, day); days != 0 {
				next := *o
				s.put(&next, i, w, days.first())
				s.goOn(&next, days.first())
			}
		}
	}
}

// A state is what the spots of the open items depend on.
type state struct {
	open        itemSet
	day         int16
	ends, crews [api.MaxExact]int16 // of the items that are at work behind the day
}

// isKnown reports whether the same state was reached before, and cost no more.
func (s *search) isKnown(o *outline, day int) bool {
	x := state{open: o.open, day: int16(day)}
	for i, at := range o.spots[:len(s.jobs)] {
		m := s.Items[i].Modes[at.mode]
		if end := at.day + m.Days; !o.open.has(i) && end > day {
			x.ends[i], x.crews[i] = int16(end), int16(m.Crew)
		}
	}
	cost, seen := s.seen[x]
	if seen && cost <= o.cost {
		return true
	}
	s.seen[x] = o.cost
	return false
}
