package schedule_test

import (
	"fmt"
	"math/rand"
	"slices"

	"keelblock/api"
)

// A second opinion on what the chapter says, day by day and without any haste.

// secondPlace is the place of an item in work.
func secondPlace(w api.Work, name string) int { return slices.Index(names(w), name) }

func secondTrade(w api.Work, name string) api.Trade {
	for _, t := range w.Trades {
		if t.Name == name {
			return t
		}
	}
	panic("no trade: " + name)
}

func secondExcludes(w api.Work, a, b api.Item) bool {
	lists := func(from, to string) bool {
		for _, s := range w.Spaces {
			if s.Name == from && slices.Contains(s.Next, to) {
				return true
			}
		}
		return false
	}
	if a.Name == b.Name || a.Kind == -1 || b.Kind == -1 {
		return false
	}
	for _, x := range w.Exclusions {
		kinds := []int{a.Kind, b.Kind}
		if !slices.Equal(kinds, []int{x.A, x.B}) && !slices.Equal(kinds, []int{x.B, x.A}) {
			continue
		}
		switch x.Reach {
		case 2:
			return true
		case 1:
			if a.Space == b.Space || lists(a.Space, b.Space) || lists(b.Space, a.Space) {
				return true
			}
		case 0:
			if a.Space == b.Space {
				return true
			}
		}
	}
	return false
}

// secondDays are the days on which the item of a slot is done.
func secondDays(w api.Work, s api.Slot) []int {
	var out []int
	for k := range w.Items[secondPlace(w, s.Item)].Modes[s.Mode].Days {
		out = append(out, s.Day+k)
	}
	return out
}

func secondMeet(w api.Work, a, b api.Slot) bool {
	other := secondDays(w, b)
	return slices.ContainsFunc(secondDays(w, a), func(day int) bool { return slices.Contains(other, day) })
}

// secondSlot is the slot of an item, if there is one.
func secondSlot(s []api.Slot, name string) (api.Slot, bool) {
	for _, x := range s {
		if x.Item == name {
			return x, true
		}
	}
	return api.Slot{}, false
}

// secondBreaches are those of slots, of which there need not be one for each item.
func secondBreaches(w api.Work, s []api.Slot) []api.Breach {
	var out []api.Breach
	add := func(a, b string, e api.Errno) { out = append(out, api.Breach{A: a, B: b, Reason: e}) }
	var items []api.Item // those with slots
	at := map[string]api.Slot{}
	for _, x := range w.Items {
		if y, is := secondSlot(s, x.Name); is {
			items, at[x.Name] = append(items, x), y
		}
	}
	for _, x := range items {
		for _, other := range x.After {
			if y, is := at[other]; is && slices.Max(secondDays(w, y)) >= at[x.Name].Day {
				add(other, x.Name, api.ErrOrder)
			}
		}
	}
	for _, t := range w.Trades {
		load := secondLoad(w, s, t.Name)
		if len(load) > 0 && slices.Max(load) > t.Crew {
			add(t.Name, "", api.ErrCapacity)
		}
	}
	for i, x := range items {
		for _, y := range items[i+1:] {
			if (secondExcludes(w, x, y) || x.Crane && y.Crane) && secondMeet(w, at[x.Name], at[y.Name]) {
				add(x.Name, y.Name, api.ErrClash)
			}
		}
	}
	for _, x := range items {
		isOut := func(day int) bool {
			return slices.ContainsFunc(w.Outages, func(o api.Outage) bool { return o.From <= day && day < o.To })
		}
		if x.Crane && slices.ContainsFunc(secondDays(w, at[x.Name]), isOut) {
			add(x.Name, "", api.ErrState)
		}
	}
	for _, x := range items {
		if slices.Max(secondDays(w, at[x.Name])) >= w.Last {
			add(x.Name, "", api.ErrLimit)
		}
	}
	return out
}

func secondDuration(w api.Work, s []api.Slot) int {
	most := 0
	for _, x := range s {
		most = max(most, 1+slices.Max(secondDays(w, x)))
	}
	return most
}

func secondLoad(w api.Work, s []api.Slot, trade string) []int {
	out := make([]int, secondDuration(w, s))
	for _, x := range s {
		y := w.Items[secondPlace(w, x.Item)]
		if y.Trade != trade {
			continue
		}
		for _, day := range secondDays(w, x) {
			out[day] += y.Modes[x.Mode].Crew
		}
	}
	return out
}

func secondCost(w api.Work, s []api.Slot) int {
	total := 0
	for _, t := range w.Trades {
		for _, crew := range secondLoad(w, s, t.Name) {
			total += crew * t.Rate
		}
	}
	for day := range secondDuration(w, s) {
		total += w.Hire
		if day >= w.Due {
			total += w.Late
		}
	}
	return total
}

// secondOrder compares plans whose slots are in the order of the work.
func secondOrder(a, b []api.Slot) int {
	return slices.CompareFunc(a, b, func(x, y api.Slot) int {
		if x.Mode != y.Mode {
			return x.Mode - y.Mode
		}
		return x.Day - y.Day
	})
}

// secondPlans are all plans, in order.
func secondPlans(w api.Work) [][]api.Slot {
	plans := [][]api.Slot{nil}
	for _, x := range w.Items {
		var more [][]api.Slot
		for _, p := range plans {
			for mode := range x.Modes {
				for day := range w.Last {
					// a breach does not vanish when slots are added
					if next := append(slices.Clone(p), slot(x.Name, mode, day)); len(secondBreaches(w, next)) == 0 {
						more = append(more, next)
					}
				}
			}
		}
		plans = more
	}
	return plans
}

// secondOrders are all orders of items.
func secondOrders(l []string) [][]string {
	if len(l) == 0 {
		return [][]string{nil}
	}
	var out [][]string
	for i, name := range l {
		for _, rest := range secondOrders(slices.Concat(l[:i], l[i+1:])) {
			out = append(out, append([]string{name}, rest...))
		}
	}
	return out
}

// randomWork has up to so many items, each with modes of few days.
func randomWork(r *rand.Rand, items int) api.Work {
	w := api.Work{
		Spaces: []api.Space{{Name: "S0", Next: []string{"S1"}}, {Name: "S1"}, {Name: "S2", Next: []string{"S1", "S2"}}},
		Hire:   r.Intn(6) * r.Intn(2),
		Late:   r.Intn(6),
		Due:    r.Intn(6),
		Last:   between(r, 3, 8),
	}
	for i := range between(r, 1, 2) {
		w.Trades = append(w.Trades, api.Trade{Name: fmt.Sprint("T", i), Crew: between(r, 1, 4), Rate: r.Intn(3)})
	}
	for range r.Intn(4) {
		w.Exclusions = append(w.Exclusions, api.Exclusion{A: r.Intn(2), B: r.Intn(2), Reach: r.Intn(3)})
	}
	for range r.Intn(3) {
		from := r.Intn(6)
		w.Outages = append(w.Outages, api.Outage{From: from, To: between(r, from+1, from+2)})
	}
	often := r.Intn(4)
	for i := range between(r, 1, items) {
		t := w.Trades[r.Intn(len(w.Trades))]
		x := api.Item{Name: fmt.Sprint("I", i), Trade: t.Name, Kind: -1, Crane: r.Intn(3) == 0}
		for range between(r, 1, 3) {
			x.Modes = append(x.Modes, api.Mode{Days: between(r, 1, 3), Crew: between(r, 0, t.Crew)})
		}
		if r.Intn(2) == 0 {
			x.Kind, x.Space = between(r, -1, 2), fmt.Sprint("S", r.Intn(3))
		}
		for k := range i {
			if r.Intn(9) < often {
				x.After = append(x.After, fmt.Sprint("I", k))
			}
		}
		w.Items = append(w.Items, x)
	}
	r.Shuffle(len(w.Items), func(i, k int) { w.Items[i], w.Items[k] = w.Items[k], w.Items[i] })
	return w
}

// randomSlots have a mode and a day for each item, in any order.
func randomSlots(r *rand.Rand, w api.Work) []api.Slot {
	var out []api.Slot
	for _, x := range w.Items {
		out = append(out, slot(x.Name, r.Intn(len(x.Modes)), r.Intn(w.Last)))
	}
	r.Shuffle(len(out), func(i, k int) { out[i], out[k] = out[k], out[i] })
	return out
}

// randomOrder is an order in which items can be taken, with a mode for each of them.
func randomOrder(r *rand.Rand, w api.Work) (order []string, modes []int) {
	for len(order) < len(w.Items) {
		x := w.Items[r.Intn(len(w.Items))]
		isOpen := func(name string) bool { return !slices.Contains(order, name) }
		if isOpen(x.Name) && !slices.ContainsFunc(x.After, isOpen) {
			order = append(order, x.Name)
		}
	}
	for _, x := range w.Items {
		modes = append(modes, r.Intn(len(x.Modes)))
	}
	return order, modes
}
