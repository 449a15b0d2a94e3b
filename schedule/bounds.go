package schedule

import (
	"slices"

	"keelblock/api"
)

// BestBound returns the greatest bound: a longest chain, or the work of a trade.
func BestBound(w api.Work) (api.Bound, api.Errno) {
	c, e := chartOf(w)
	if e != api.OK {
		return api.Bound{}, e
	}
	return c.bestBound(), api.OK
}

// CheckBound checks that a bound follows from its chain, or its trade.
func CheckBound(w api.Work, b api.Bound) api.Errno {
	c, e := chartOf(w)
	if e != api.OK {
		return e
	}
	days, e := c.boundOf(b)
	switch {
	case e != api.OK:
		return e
	case b.Days > days:
		return api.ErrProof
	}
	return api.OK
}

func (c chart) bestBound() api.Bound {
	var b api.Bound
	b.Chain, b.Days = c.longestChain()
	for i, t := range c.Trades {
		if days := c.tradeBound(i); days > b.Days {
			b = api.Bound{Days: days, Trade: t.Name}
		}
	}
	return b
}

// longestChain returns the first one of the longest chains, and its days.
func (c chart) longestChain() ([]string, int) {
	_, days := c.earliest()
	latest := c.latest(days)
	var names []string
	before, end := -1, 0
	for end < days {
		// what begins at once when the item before ends, and as late as it can, goes on with such a chain
		next := firstOf(len(latest), func(i int) bool {
			return latest[i] == end && (before < 0 || slices.Contains(c.after[i], before))
		})
		names = append(names, c.names[next])
		before, end = next, end+c.leastDays(next)
	}
	return names, days
}

// tradeBound returns the days that the work of a trade takes at the least.
func (c chart) tradeBound(trade int) int {
	work := 0
	for i := range c.Items {
		if c.trade[i] == trade {
			work += c.leastWork(i)
		}
	}
	if work == 0 {
		return 0
	}
	crew := c.Trades[trade].Crew
	return (work + crew - 1) / crew
}

// boundOf returns the bound of the trade, or else of the chain, that a bound names.
func (c chart) boundOf(b api.Bound) (int, api.Errno) {
	if b.Trade == "" {
		return c.chainBound(b.Chain)
	}
	trade := slices.Index(tradeNames(c.Work), b.Trade)
	if trade < 0 {
		return 0, api.ErrMissing
	}
	return c.tradeBound(trade), api.OK
}

func (c chart) chainBound(names []string) (int, api.Errno) {
	chain, e := c.places(names)
	if e != api.OK {
		return 0, e
	}
	days := 0
	for k, i := range chain {
		if k > 0 && !slices.Contains(c.after[i], chain[k-1]) {
			return 0, api.ErrProof
		}
		days += c.leastDays(i)
	}
	return days, api.OK
}
