package schedule

import (
	"slices"

	"keelblock/api"
)

// Lists returns the slots that come about if items are taken one after another, each on the first
// day that fits.
func Lists(w api.Work, order []string, modes []int) ([]api.Slot, api.Errno) {
	c, e := chartOf(w)
	if e != api.OK {
		return nil, e
	}
	places, e := c.orderOf(order, modes)
	if e != api.OK {
		return nil, e
	}
	l := newList(c, modes)
	for _, i := range places {
		if !l.take(i) {
			return nil, api.ErrNone
		}
	}
	return l.slots(), api.OK
}

// orderOf returns the places of items in an order in which they can be taken, or an error.
func (c chart) orderOf(order []string, modes []int) ([]int, api.Errno) {
	if len(order) != len(c.Items) || len(modes) != len(c.Items) {
		return nil, api.ErrShape
	}
	var out []int
	for _, name := range order {
		i := c.place(name)
		switch {
		case i < 0:
			return nil, api.ErrMissing
		case slices.Contains(out, i):
			return nil, api.ErrExists
		case slices.ContainsFunc(c.after[i], func(k int) bool { return !slices.Contains(out, k) }):
			return nil, api.ErrOrder
		}
		out = append(out, i)
	}
	for i, mode := range modes {
		if !c.hasMode(i, mode) {
			return nil, api.ErrRange
		}
	}
	return out, api.OK
}

func (c chart) hasMode(i, mode int) bool { return within(mode, 0, len(c.Items[i].Modes)-1) }

// A list is a plan in which only some items have their days.
type list struct {
	plan
	taken  []int
	people []map[int]int // who is at work: by trade and by days
}

func newList(c chart, modes []int) *list {
	l := &list{plan: plan{chart: c}}
	for _, mode := range modes {
		l.spots = append(l.spots, spot{mode: mode})
	}
	for range c.Trades {
		l.people = append(l.people, map[int]int{})
	}
	return l
}

// take gives an item the first day that fits, and reports whether there is one.
func (l *list) take(i int) bool {
	first := 0
	for _, k := range l.after[i] {
		first = max(first, l.time(k).to)
	}
	for day := first; day+l.mode(i).Days <= l.Last; day++ {
		l.spots[i].day = day
		if l.fits(i) {
			l.taken = append(l.taken, i)
			addPeople(l.people[l.trade[i]], l.time(i), l.mode(i).Crew)
			return true
		}
	}
	return false
}

// fits reports whether an item makes no breach with those that are taken.
func (l *list) fits(i int) bool {
	t, trade := l.time(i), l.trade[i]
	if l.Items[i].Crane && l.isShut(t) {
		return false
	}
	for day := t.from; day < t.to; day++ {
		if l.people[trade][day]+l.mode(i).Crew > l.Trades[trade].Crew {
			return false
		}
	}
	return !slices.ContainsFunc(l.taken, func(k int) bool { return t.meets(l.time(k)) && l.apart(i, k) })
}
