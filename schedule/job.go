package schedule

import "slices"

// An itemSet has the bit i for the item at the place i.
type itemSet uint8

func only(i int) itemSet { return 1 << i }

func (s itemSet) has(i int) bool { return s&only(i) != 0 }

// A way is a mode of an item, with its cost.
type way struct{ mode, days, crew, cost int }

// A job is an item as the search looks at it.
type job struct {
	trade            int
	after, apart     itemSet // which items it waits for, and with which it may not have a day in common
	ways             []way
	days, work, cost int // the least ones of its ways
}

// job returns that of an item, with the useful ways of its modes.
func (c chart) job(i int) job {
	j := job{trade: c.trade[i]}
	for _, k := range c.after[i] {
		j.after |= only(k)
	}
	for k := range c.Items {
		if k != i && c.apart(i, k) {
			j.apart |= only(k)
		}
	}
	var ways []way
	for mode := range c.Items[i].Modes {
		ways = append(ways, c.way(i, mode))
	}
	return j.with(useful(ways))
}

func (c chart) way(i, mode int) way {
	m := c.Items[i].Modes[mode]
	return way{mode, m.Days, m.Crew, c.costOfMode(i, mode)}
}

// with returns the same job with other ways.
func (j job) with(ways []way) job {
	j.ways = ways
	j.days = leastOf(ways, func(w way) int { return w.days })
	j.work = leastOf(ways, func(w way) int { return w.days * w.crew })
	j.cost = leastOf(ways, func(w way) int { return w.cost })
	return j
}

// useful leaves out each way that can be replaced by another one, which takes neither more days nor
// more people, and so costs no more.
func useful(ways []way) []way {
	var out []way
	for i, w := range ways {
		replaces := func(o way) bool { return o.days <= w.days && o.crew <= w.crew }
		isLess := func(o way) bool { return replaces(o) && !(o.days == w.days && o.crew == w.crew) }
		if !slices.ContainsFunc(ways[:i], replaces) && !slices.ContainsFunc(ways[i+1:], isLess) {
			out = append(out, w)
		}
	}
	return out
}
