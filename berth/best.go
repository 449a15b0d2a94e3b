package berth

import (
	"slices"

	"keelblock/api"
)

// Best returns the first one of the cheapest lists of stays, and its cost.
func Best(y api.Yard) ([]api.Stay, int, api.Errno) {
	if e := yardError(y); e != api.OK {
		return nil, 0, e
	}
	if len(y.Calls) > mostSearched || y.Last > lastSearched {
		return nil, 0, api.ErrLarge
	}
	s := newSearch(y)
	if s.least == nil {
		return nil, 0, api.ErrNone
	}
	s.goOn(0)
	if !s.found {
		return nil, 0, api.ErrNone
	}
	var out []api.Stay
	for i, x := range s.best {
		out = append(out, api.Stay{Call: y.Calls[i].Name, Dock: y.Docks[x.dock].Name, Day: x.time.from})
	}
	return out, s.cost, api.OK
}

// A search goes through the bookings of one ship after another, in the order in which lists of
// stays are compared.
type search struct {
	calls []api.Call
	days  [][][]int // on which a ship may come: by ship and by dock
	least []int     // the least cost of a ship and all behind it, if they were alone
	taken []booking // by the first ships
	found bool
	best  []booking
	cost  int // of best
}

// newSearch returns a search at its beginning; least is nil if a ship has no days at all.
func newSearch(y api.Yard) *search {
	s := &search{calls: y.Calls}
	for _, c := range y.Calls {
		var days [][]int
		for _, d := range y.Docks {
			days = append(days, comingDays(y, d, c))
		}
		s.days = append(s.days, days)
	}
	least := make([]int, len(y.Calls)+1)
	for i := len(y.Calls) - 1; i >= 0; i-- {
		all := slices.Concat(s.days[i]...)
		if len(all) == 0 {
			return s
		}
		least[i] = least[i+1] + costOf(y.Calls[i], slices.Min(all))
	}
	s.least = least
	return s
}

// comingDays returns the days, ascending, on which a ship may come into a dock.
func comingDays(y api.Yard, d api.Dock, c api.Call) []int {
	if !fits(d, c) {
		return nil
	}
	days := dockingDays(d, c, y.Sea)
	var out []int
	for _, day := range days {
		if c.Arrive <= day && day+c.Work <= y.Last && slices.Contains(days, day+c.Work) {
			out = append(out, day)
		}
	}
	return out
}

// goOn books the next ship, and all behind it, wherever that may be cheaper than the best so far.
func (s *search) goOn(cost int) {
	i := len(s.taken)
	if i == len(s.calls) {
		s.found, s.best, s.cost = true, slices.Clone(s.taken), cost
		return
	}
	c := s.calls[i]
docks:
	for dock, days := range s.days[i] {
		for _, day := range days {
			sum := cost + costOf(c, day)
			if s.found && sum+s.least[i+1] >= s.cost {
				// a later day in this dock costs no less
				continue docks
			}
			b := book(dock, c, day)
			if !isFree(s.taken, b, booking.clashes) {
				continue
			}
			s.taken = append(s.taken, b)
			s.goOn(sum)
			s.taken = s.taken[:i]
		}
	}
}
