package schedule

import "keelblock/api"

// A list of spots has one for each item of a search, and nothing behind them.
type spotList [api.MaxExact]spot

// An outline is a plan in which some items have their spots. A search copies it at each step: the
// smaller its numbers are, the faster.
type outline struct {
	open       itemSet // the items without a spot
	spots      spotList
	cost, days int                                // of the spots
	idle       [api.MaxTrades][lastSearched]int16 // people who have nothing to do, by trade and day
	shut       [api.MaxExact]daySet               // the days on which an item can not be done
	begin, end [api.MaxExact]int                  // the least first day of an item, and its greatest end
}

// start returns the outline in which no item has a spot.
func (s *search) start() outline {
	o := outline{open: ^itemSet(0) >> (api.MaxExact - len(s.jobs))}
	for i, t := range s.Trades {
		for day := range o.idle[i] {
			o.idle[i][day] = int16(t.Crew)
		}
	}
	for i, x := range s.Items {
		o.end[i] = s.Last
		for _, t := range s.Outages {
			if x.Crane {
				o.shut[i] |= daysOf(period{min(t.From, lastSearched), min(t.To, lastSearched)})
			}
		}
	}
	return o
}

// put gives an open item a spot.
func (s *search) put(o *outline, i int, w way, day int) {
	t := period{day, day + w.days}
	o.open &^= only(i)
	o.spots[i] = spot{w.mode, day}
	o.cost, o.days = o.cost+w.cost, max(o.days, t.to)
	for d := t.from; d < t.to; d++ {
		o.idle[s.jobs[i].trade][d] -= int16(w.crew)
	}
	for k, other := range s.jobs {
		if other.apart.has(i) {
			o.shut[k] |= daysOf(t)
		}
		if other.after.has(i) {
			o.begin[k] = max(o.begin[k], t.to)
		}
		if s.jobs[i].after.has(k) {
			o.end[k] = min(o.end[k], t.from)
		}
	}
}

// firstDays returns the days from one on at which an open item can begin, if the other open items
// are not looked at.
func (s *search) firstDays(o *outline, i int, w way, from int) daySet {
	from = max(from, o.begin[i])
	if from+w.days > o.end[i] {
		return 0
	}
	free := daysOf(period{from, o.end[i]}) &^ o.shut[i]
	idle := &o.idle[s.jobs[i].trade]
	for day := from; day < o.end[i]; day++ {
		if int(idle[day]) < w.crew {
			free &^= 1 << day
		}
	}
	return free.runs(w.days)
}
