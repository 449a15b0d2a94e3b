package schedule

import (
	"slices"

	"keelblock/api"
)

// A chart is work without an error, with the places of what its items name. It lives no longer
// than a call.
type chart struct {
	api.Work
	names []string // of the items
	trade []int    // of each item: the place of its trade
	after [][]int  // of each item: the places of those of its After
	order []int    // the places of all items in the first order
	next  map[[2]string]bool
}

// chartOf returns the chart of work, or its error.
func chartOf(w api.Work) (chart, api.Errno) {
	if e := CheckWork(w); e != api.OK {
		return chart{}, e
	}
	c := chart{Work: w, names: itemNames(w), after: afterPlaces(w), next: neighbours(w)}
	c.order = firstOrder(c.after)
	trades := tradeNames(w)
	for _, x := range w.Items {
		c.trade = append(c.trade, slices.Index(trades, x.Trade))
	}
	return c, api.OK
}

// afterPlaces returns for each item the places of those of its After.
func afterPlaces(w api.Work) [][]int {
	names := itemNames(w)
	out := make([][]int, len(names))
	for i, x := range w.Items {
		for _, other := range x.After {
			out[i] = append(out[i], slices.Index(names, other))
		}
	}
	return out
}

// firstOrder returns the first order in which each item stands behind those of its After. Items
// that wait for each other in a circle, and those that wait for them, are left out.
func firstOrder(after [][]int) []int {
	var out []int
	isOpen := func(i int) bool { return !slices.Contains(out, i) }
	for {
		next := firstOf(len(after), func(i int) bool { return isOpen(i) && !slices.ContainsFunc(after[i], isOpen) })
		if next < 0 {
			return out
		}
		out = append(out, next)
	}
}

// firstOf returns the first number from 0 to n - 1 for which is returns true, or -1.
func firstOf(n int, is func(i int) bool) int {
	for i := range n {
		if is(i) {
			return i
		}
	}
	return -1
}

// neighbours returns the pairs of spaces of which one lists the other one.
func neighbours(w api.Work) map[[2]string]bool {
	out := map[[2]string]bool{}
	for _, s := range w.Spaces {
		for _, next := range s.Next {
			out[[2]string{s.Name, next}] = true
			out[[2]string{next, s.Name}] = true
		}
	}
	return out
}

// place returns the place of an item, or -1.
func (c chart) place(name string) int { return slices.Index(c.names, name) }

// places returns those of items, or an error.
func (c chart) places(names []string) ([]int, api.Errno) {
	var out []int
	for _, name := range names {
		i := c.place(name)
		if i < 0 {
			return nil, api.ErrMissing
		}
		out = append(out, i)
	}
	return out, api.OK
}

// reach returns the least reach by which two spaces are tied.
func (c chart) reach(a, b string) int {
	switch {
	case a == b:
		return sameSpace
	case c.next[[2]string{a, b}]:
		return nextSpace
	}
	return anySpace
}

// exclude reports whether the items at two places exclude each other.
func (c chart) exclude(i, j int) bool {
	a, b := c.Items[i], c.Items[j]
	return i != j && slices.ContainsFunc(c.Exclusions, func(x api.Exclusion) bool {
		kinds := x.A == a.Kind && x.B == b.Kind || x.A == b.Kind && x.B == a.Kind
		return kinds && c.reach(a.Space, b.Space) <= x.Reach
	})
}

// apart reports whether two different items may not have a day in common.
func (c chart) apart(i, j int) bool {
	return c.exclude(i, j) || c.Items[i].Crane && c.Items[j].Crane
}

// leastDays returns the days of the shortest mode of an item.
func (c chart) leastDays(i int) int {
	return leastOf(c.Items[i].Modes, func(m api.Mode) int { return m.Days })
}

// leastWork returns the least product of days and crew of the modes of an item.
func (c chart) leastWork(i int) int {
	return leastOf(c.Items[i].Modes, func(m api.Mode) int { return m.Days * m.Crew })
}

// leastOf returns the least number of a list that is not empty.
func leastOf[T any](l []T, number func(x T) int) int {
	least := number(l[0])
	for _, x := range l {
		least = min(least, number(x))
	}
	return least
}
