package schedule

import "keelblock/api"

// never is an end behind the last day.
const never = api.MaxDays

// isWorth reports whether an outline may lead to a plan that is looked for. Neither cost nor days
// of such a plan are below these estimates.
func (s *search) isWorth(o *outline, day int) bool {
	cost, days := o.cost, max(o.days, s.chainsEnd(o, day))
	var work [api.MaxTrades]int
	for i, j := range s.jobs {
		if o.open.has(i) {
			cost += j.cost
			work[j.trade] += j.work
			days = max(days, s.groupEnd(o, day, i))
		}
	}
	for trade := range s.Trades {
		days = max(days, s.tradeEnd(o, day, trade, work[trade]))
	}
	return days <= s.Last && s.value(cost, days) <= s.most
}

// chainsEnd returns the day at which the open items end, if only their order is looked at.
func (s *search) chainsEnd(o *outline, day int) int {
	last := 0
	var ends [api.MaxExact]int
	for _, i := range s.order {
		if !o.open.has(i) {
			continue
		}
		begin := max(day, o.begin[i])
		for _, k := range s.after[i] {
			begin = max(begin, ends[k])
		}
		ends[i] = begin + s.jobs[i].days
		if ends[i] > o.end[i] {
			return never
		}
		last = max(last, ends[i])
	}
	return last
}

// groupEnd returns the day at which an item and others end, no two of which have a day in common.
func (s *search) groupEnd(o *outline, day, first int) int {
	from, days, shut := max(day, o.begin[first]), s.jobs[first].days, o.shut[first]
	others := o.open & s.jobs[first].apart
	for i, j := range s.jobs {
		if others.has(i) {
			from, days, shut = min(from, max(day, o.begin[i])), days+j.days, shut&o.shut[i]
			others &= j.apart
		}
	}
	free := daysOf(period{min(from, s.Last), s.Last}) &^ shut
	if free.count() < days {
		return never
	}
	return free.without(days-1).first() + 1
}

// tradeEnd returns the day at which a trade has done so much work, if nobody is idle.
func (s *search) tradeEnd(o *outline, day, trade, work int) int {
	for ; work > 0; day++ {
		if day >= s.Last {
			return never
		}
		work -= int(o.idle[trade][day])
	}
	return day
}
