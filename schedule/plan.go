package schedule

import (
	"cmp"
	"slices"

	"keelblock/api"
)

// A spot is a mode (an index) and a first day.
type spot struct{ mode, day int }

// A plan is a chart with a spot for each item, whether they fit together or not.
type plan struct {
	chart
	spots []spot // in the order of the work
}

// planOf returns the plan that slots make of work, or the error of the work or of the slots.
func planOf(w api.Work, s []api.Slot) (plan, api.Errno) {
	c, e := chartOf(w)
	if e != api.OK {
		return plan{}, e
	}
	if len(s) != len(w.Items) {
		return plan{}, api.ErrShape
	}
	p := plan{chart: c, spots: make([]spot, len(s))}
	seen := map[int]bool{}
	for _, x := range s {
		i := c.place(x.Item)
		switch {
		case i < 0:
			return plan{}, api.ErrMissing
		case seen[i]:
			return plan{}, api.ErrExists
		case !c.hasMode(i, x.Mode) || !isDay(x.Day):
			return plan{}, api.ErrRange
		}
		seen[i], p.spots[i] = true, spot{x.Mode, x.Day}
	}
	return p, api.OK
}

// rightPlanOf returns the plan that slots make of work, or an error, which may be that of a breach.
func rightPlanOf(w api.Work, s []api.Slot) (plan, api.Errno) {
	p, e := planOf(w, s)
	if e != api.OK {
		return plan{}, e
	}
	if b := p.breaches(); len(b) > 0 {
		return plan{}, b[0].Reason
	}
	return p, api.OK
}

// slots returns the slots of a plan in the order of the work.
func (p plan) slots() []api.Slot {
	var out []api.Slot
	for i, s := range p.spots {
		out = append(out, api.Slot{Item: p.names[i], Mode: s.mode, Day: s.day})
	}
	return out
}

func (p plan) mode(i int) api.Mode { return p.Items[i].Modes[p.spots[i].mode] }

func (p plan) time(i int) period {
	from := p.spots[i].day
	return period{from, from + p.mode(i).Days}
}

// days returns the duration.
func (p plan) days() int {
	most := 0
	for i := range p.spots {
		most = max(most, p.time(i).to)
	}
	return most
}

// people returns how many people of a trade are at work, by days.
func (p plan) people(trade int) map[int]int {
	out := map[int]int{}
	for i := range p.spots {
		if p.trade[i] == trade {
			addPeople(out, p.time(i), p.mode(i).Crew)
		}
	}
	return out
}

func addPeople(people map[int]int, t period, crew int) {
	for day := t.from; day < t.to; day++ {
		people[day] += crew
	}
}

// byTime returns the places of all items by their first days.
func (p plan) byTime() []int {
	var out []int
	for i := range p.spots {
		out = append(out, i)
	}
	slices.SortStableFunc(out, func(i, k int) int { return cmp.Compare(p.spots[i].day, p.spots[k].day) })
	return out
}

// A period is the days from one to another one, which is not included.
type period struct{ from, to int }

func (a period) meets(b period) bool { return a.from < b.to && b.from < a.to }

// isShut reports whether the crane does not work on a day of a period.
func (c chart) isShut(t period) bool {
	return slices.ContainsFunc(c.Outages, func(x api.Outage) bool { return t.meets(period{x.From, x.To}) })
}

// Days returns the duration of a plan.
func Days(w api.Work, s []api.Slot) (int, api.Errno) {
	p, e := rightPlanOf(w, s)
	if e != api.OK {
		return 0, e
	}
	return p.days(), api.OK
}

// Cost returns the cost of a plan.
func Cost(w api.Work, s []api.Slot) (int, api.Errno) {
	p, e := rightPlanOf(w, s)
	if e != api.OK {
		return 0, e
	}
	total := costOfDays(w, p.days())
	for i := range p.spots {
		total += p.costOfMode(i, p.spots[i].mode)
	}
	return total, api.OK
}

// costOfMode returns what the people of a mode cost.
func (c chart) costOfMode(i, mode int) int {
	m := c.Items[i].Modes[mode]
	return m.Days * m.Crew * c.Trades[c.trade[i]].Rate
}

// costOfDays returns what a duration costs.
func costOfDays(w api.Work, days int) int { return w.Hire*days + w.Late*max(0, days-w.Due) }

// Load returns how many people of a trade are at work on each day.
func Load(w api.Work, s []api.Slot, trade string) ([]int, api.Errno) {
	p, e := planOf(w, s)
	if e != api.OK {
		return nil, e
	}
	i := slices.Index(tradeNames(w), trade)
	if i < 0 {
		return nil, api.ErrMissing
	}
	out, people := make([]int, p.days()), p.people(i)
	for day := range out {
		out[day] = people[day]
	}
	return out, api.OK
}
