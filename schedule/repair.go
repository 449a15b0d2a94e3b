package schedule

import (
	"math/bits"

	"keelblock/api"
)

// Repair returns the first one of the cheapest plans among those with the fewest changes of slots
// from a day on, and how many changes these are.
func Repair(w api.Work, s []api.Slot, now int) ([]api.Slot, int, api.Errno) {
	p, e := planOf(w, s)
	switch {
	case e != api.OK:
		return nil, 0, e
	case !isDay(now):
		return nil, 0, api.ErrRange
	case p.isLarge():
		return nil, 0, api.ErrLarge
	}
	search := newSearch(p.chart, valueOfCost(w))
	for changes := range len(p.spots) + 1 {
		if best := search.best(search.outlines(p, now, changes)); best.found {
			return p.chart.slots(best.spots), changes, api.OK
		}
	}
	return nil, 0, api.ErrNone
}

// outlines returns those in which all items but so many keep their spots of a plan.
func (s *search) outlines(p plan, now, changes int) []outline {
	var out []outline
	for i := range 1 << len(p.spots) {
		if bits.OnesCount(uint(i)) != changes {
			continue
		}
		if o, can := s.keep(p, now, itemSet(i)); can {
			out = append(out, o)
		}
	}
	return out
}

// keep returns the outline in which only some items leave their spots of a plan, and reports whether
// they may do so, and the others have no breach.
func (s *search) keep(p plan, now int, changed itemSet) (outline, bool) {
	o := s.start()
	for i, at := range p.spots {
		if changed.has(i) {
			if at.day < now {
				return outline{}, false
			}
			o.begin[i] = max(o.begin[i], now)
			continue
		}
		w := p.way(i, at.mode)
		if !s.firstDays(&o, i, w, 0).has(at.day) {
			return outline{}, false
		}
		s.put(&o, i, w, at.day)
	}
	return o, true
}
