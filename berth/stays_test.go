package berth_test

import (
	"fmt"
	"math"
	"math/rand"
	"slices"
	"testing"

	"keelblock/api"
	"keelblock/berth"
)

// tideOn is a sea that is at 100 for an hour on each of some days, until the day behind the last.
func tideOn(days ...int) []api.Mark {
	var times [][2]int
	for _, day := range days {
		times = append(times, [2]int{1440*day + 600, 1440*day + 659})
	}
	return high(1440*(days[len(days)-1]+1), times...)
}

// yard has two docks, into the first one of which only two of three ships fit, and a sea that is
// high on all days but the third and the sixth.
func yard() api.Yard {
	call := func(name string, length, arrive, work, due, late int) api.Call {
		c := deep(100)
		c.Name, c.Length, c.Arrive, c.Work, c.Due, c.Late = name, length, arrive, work, due, late
		return c
	}
	return api.Yard{
		Docks: []api.Dock{{Name: "Small", Length: 50, Width: 9, Gap: 2}, {Name: "Big", Length: 90, Width: 9, Gap: 2}},
		Calls: []api.Call{call("Ada", 40, 0, 3, 4, 10), call("Bea", 46, 1, 4, 5, 7), call("Cleo", 80, 0, 5, 5, 100)},
		Sea:   tideOn(0, 1, 3, 4, 5, 7, 8, 9, 10, 11, 12),
		Last:  12,
	}
}

func stay(call, dock string, day int) api.Stay { return api.Stay{Call: call, Dock: dock, Day: day} }

// P6.5

// The errors of a yard are those of its parts.
type yardChange struct {
	what string
	do   func(y *api.Yard)
	e    api.Errno
}

func yardChanges() []yardChange {
	return []yardChange{
		{"nothing", func(y *api.Yard) {}, api.OK},
		{"5 docks", func(y *api.Yard) { y.Docks = make([]api.Dock, 5) }, api.ErrLarge},
		{"a dock", func(y *api.Yard) { y.Docks[1].Gap = -1 }, api.ErrRange},
		{"a dock twice", func(y *api.Yard) { y.Docks[1].Name = "Small" }, api.ErrExists},
		{"a dock before a ship", func(y *api.Yard) { y.Docks[1].Name, y.Calls[0].Work = "", 0 }, api.ErrName},
		{"9 ships", func(y *api.Yard) { y.Calls = make([]api.Call, 9) }, api.ErrLarge},
		{"a ship", func(y *api.Yard) { y.Calls[2].Due = 401 }, api.ErrRange},
		{"a ship twice", func(y *api.Yard) { y.Calls[2].Name = "Ada" }, api.ErrExists},
		{"a ship before the sea", func(y *api.Yard) { y.Calls[2].Name, y.Sea = "", nil }, api.ErrName},
		{"the sea", func(y *api.Yard) { y.Sea[0].Minute = -1 }, api.ErrRange},
		{"the order of the sea", func(y *api.Yard) { y.Sea[0].Minute = 1000 }, api.ErrOrder},
		{"many marks", func(y *api.Yard) { y.Sea = make([]api.Mark, 401) }, api.ErrLarge},
		{"the sea before the last day", func(y *api.Yard) { y.Sea[0].Minute, y.Last = 1000, -1 }, api.ErrOrder},
		{"no sea", func(y *api.Yard) { y.Sea = nil }, api.ErrNone},
		{"no sea before the last day", func(y *api.Yard) { y.Sea, y.Last = nil, 401 }, api.ErrNone},
		{"the last day", func(y *api.Yard) { y.Last = -1 }, api.ErrRange},
		{"the last day", func(y *api.Yard) { y.Last = 401 }, api.ErrRange},
		{"the last day", func(y *api.Yard) { y.Last = math.MaxInt }, api.ErrRange},
	}
}

func TestErrorsOfAYardComeFirst(t *testing.T) {
	for _, c := range yardChanges() {
		y := yard()
		c.do(&y)
		if c.e == api.OK {
			continue
		}
		for _, s := range [][]api.Stay{nil, {stay("?", "?", -1)}, stays(0, 1, 3)} {
			want(t, "CheckStays with "+c.what, berth.CheckStays(y, s), c.e)
			cost, e := berth.Cost(y, s)
			wantError(t, "Cost with "+c.what, c.e, e, cost)
		}
		l, cost, e := berth.Best(y)
		wantError(t, "Best with "+c.what, c.e, e, l, cost)
	}
	// none of these stands back behind too many ships, or a last day that is too late
	y := yard()
	for i := range 5 {
		y.Calls = append(y.Calls, ship(fmt.Sprint("S", i), 3, 2))
	}
	y.Last, y.Sea = 61, nil
	l, cost, e := berth.Best(y)
	wantError(t, "Best of many ships", api.ErrNone, e, l, cost)
	for _, last := range []int{0, 400} {
		y := yard()
		y.Calls, y.Last = nil, last
		want(t, "the bounds of the last day", berth.CheckStays(y, nil), api.OK)
	}
}

// stays are right stays of the three ships, if the days are 0 or 4, 1, and 3.
func stays(ada, bea, cleo int) []api.Stay {
	return []api.Stay{stay("Ada", "Small", ada), stay("Bea", "Small", bea), stay("Cleo", "Big", cleo)}
}

func TestCheckStays(t *testing.T) {
	for _, x := range []struct {
		what string
		s    []api.Stay
		e    api.Errno
	}{
		{"right", stays(0, 4, 3), api.OK},
		{"another order", []api.Stay{stay("Cleo", "Big", 3), stay("Bea", "Small", 4), stay("Ada", "Small", 0)}, api.OK},
		{"all in one dock", []api.Stay{stay("Ada", "Big", 0), stay("Bea", "Big", 8), stay("Cleo", "Big", 3)}, api.OK},
		{"no stays", nil, api.ErrShape},
		{"few stays", stays(0, 4, 3)[:2], api.ErrShape},
		{"many stays", append(stays(0, 4, 3), stay("Dora", "Big", 0)), api.ErrShape},
		{"the shape before a ship", once(stay("?", "?", 0)), api.ErrShape},
		{"no such ship", []api.Stay{stay("Dora", "Small", 0), stay("Bea", "Small", 4), stay("Cleo", "Big", 3)}, api.ErrMissing},
		{"no such dock", []api.Stay{stay("Ada", "Small", 0), stay("Bea", "", 4), stay("Cleo", "Big", 3)}, api.ErrMissing},
		{"a ship twice", []api.Stay{stay("Ada", "Small", 0), stay("Ada", "Big", 4), stay("Cleo", "Big", 3)}, api.ErrExists},
		{"no such dock before a ship twice", []api.Stay{stay("Ada", "Small", 0), stay("Ada", "?", 4), stay("Cleo", "Big", 3)}, api.ErrMissing},
		{"a ship twice before its size", []api.Stay{stay("Cleo", "Big", 3), stay("Cleo", "Small", 4), stay("Ada", "Big", 3)}, api.ErrExists},
		{"too long", []api.Stay{stay("Cleo", "Small", 3), stay("Bea", "Small", 4), stay("Ada", "Big", 3)}, api.ErrLimit},
		{"too long before its day", []api.Stay{stay("Cleo", "Small", -1), stay("Bea", "Small", 4), stay("Ada", "Big", 3)}, api.ErrLimit},
		{"a day before", stays(-1, 4, 3), api.ErrState},
		{"the least day", stays(math.MinInt, 4, 3), api.ErrState},
		{"before it arrives", stays(0, 0, 3), api.ErrState},
		{"before it arrives, in the next one", stays(0, math.MaxInt, 3), api.ErrRange},
		{"behind the last day", stays(0, 4, 8), api.ErrRange},
		{"far behind the last day", stays(math.MaxInt, 4, 3), api.ErrRange},
		{"on no docking day", stays(2, 4, 3), api.ErrNone},
		{"until no docking day", stays(3, 4, 3), api.ErrNone},
		{"one error before the next one", stays(2, 4, -1), api.ErrNone},
		{"a stay before a clash", stays(1, 1, 2), api.ErrNone},
		{"a clash", stays(1, 1, 3), api.ErrClash},
		{"a clash of the last day", stays(1, 3, 3), api.ErrClash},
		{"one behind the other", stays(1, 4, 3), api.OK},
		{"the other way round", stays(5, 1, 3), api.OK},
		{"a clash the other way round", stays(4, 1, 3), api.ErrClash},
		{"a clash with the last one", []api.Stay{stay("Ada", "Big", 5), stay("Bea", "Small", 1), stay("Cleo", "Big", 3)}, api.ErrClash},
	} {
		y := yard()
		want(t, x.what, berth.CheckStays(y, x.s), x.e)
		if x.e != api.OK {
			cost, e := berth.Cost(y, x.s)
			wantError(t, "Cost with "+x.what, x.e, e, cost)
		}
	}
}

// The last day is that on which the last ship leaves.
func TestTheLastDay(t *testing.T) {
	y := yard()
	for last, wanted := range map[int]api.Errno{7: api.ErrRange, 8: api.OK, 9: api.OK} {
		y.Last = last
		want(t, fmt.Sprint("until ", last), berth.CheckStays(y, stays(0, 4, 3)), wanted)
	}
	y = yard()
	y.Calls = y.Calls[:1]
	y.Calls[0].Work = 1000
	want(t, "a long work", berth.CheckStays(y, once(stay("Ada", "Big", 0))), api.ErrRange)
	y.Calls[0].Work, y.Calls[0].Arrive = 1, 400
	want(t, "a late ship", berth.CheckStays(y, once(stay("Ada", "Big", 400))), api.ErrRange)
	y.Last, y.Calls[0].Arrive, y.Sea = 400, 399, []api.Mark{{Minute: 1000000, Level: 100}}
	want(t, "the last stay of all", berth.CheckStays(y, once(stay("Ada", "Big", 399))), api.OK)
	y.Calls[0].Arrive = 400
	want(t, "a stay behind it", berth.CheckStays(y, once(stay("Ada", "Big", 400))), api.ErrRange)
	y.Sea = []api.Mark{{Minute: 1440 * 400, Level: 100}}
	y.Calls[0].Arrive = 0
	want(t, "a day too late", berth.CheckStays(y, once(stay("Ada", "Big", 399))), api.ErrNone)
}

func TestCost(t *testing.T) {
	for _, x := range []struct {
		s      []api.Stay
		wanted int
	}{
		{stays(0, 4, 3), 3*7 + 3*100},
		{stays(1, 4, 3), 3*7 + 3*100},
		{stays(5, 1, 3), 4*10 + 3*100},
		{stays(9, 4, 0), 8*10 + 3*7},
		{[]api.Stay{stay("Cleo", "Big", 0), stay("Bea", "Small", 1), stay("Ada", "Big", 5)}, 4 * 10},
	} {
		cost, e := berth.Cost(yard(), x.s)
		want(t, fmt.Sprint(x.s), []any{cost, e}, []any{x.wanted, api.OK})
	}
	y := yard()
	y.Calls = nil
	cost, e := berth.Cost(y, nil)
	want(t, "nothing", []any{cost, e}, []any{0, api.OK})
	// eight ships as late as can be
	y = api.Yard{Docks: once(dock()), Sea: []api.Mark{{Minute: 1000000, Level: 100}}, Last: 400}
	var s []api.Stay
	for i := range 8 {
		c := ship(fmt.Sprint("S", i), 3, 2)
		c.Late = 1000000000
		y.Calls = append(y.Calls, c)
		s = append(s, stay(c.Name, "Dock", 399-i))
	}
	cost, e = berth.Cost(y, s)
	want(t, "eight ships", []any{cost, e}, []any{(400*8 - 28) * 1000000000, api.OK})
}

func TestBest(t *testing.T) {
	y := yard()
	l, cost, e := berth.Best(y)
	want(t, "the yard", []any{l, cost, e}, []any{[]api.Stay{stay("Ada", "Small", 0), stay("Bea", "Small", 3), stay("Cleo", "Big", 0)}, 14, api.OK})
	y.Calls[1].Late = 20
	l, cost, e = berth.Best(y)
	want(t, "as cheap in the first dock", []any{l, cost, e}, []any{[]api.Stay{stay("Ada", "Small", 0), stay("Bea", "Small", 3), stay("Cleo", "Big", 0)}, 40, api.OK})
	y.Calls[1].Late = 21
	l, cost, e = berth.Best(y)
	want(t, "a ship that must not be late", []any{l, cost, e}, []any{[]api.Stay{stay("Ada", "Small", 5), stay("Bea", "Small", 1), stay("Cleo", "Big", 0)}, 40, api.OK})
	y.Calls[1].Late = 0
	l, cost, e = berth.Best(y)
	want(t, "a ship that may be late", []any{l, cost, e}, []any{[]api.Stay{stay("Ada", "Small", 0), stay("Bea", "Small", 3), stay("Cleo", "Big", 0)}, 0, api.OK})
	y.Calls[0].Late = 0
	l, cost, e = berth.Best(y)
	want(t, "two ships that may be late", []any{l, cost, e}, []any{[]api.Stay{stay("Ada", "Small", 0), stay("Bea", "Small", 3), stay("Cleo", "Big", 0)}, 0, api.OK})
	y.Last = 6
	l, cost, e = berth.Best(y)
	want(t, "a short time", []any{l, cost, e}, []any{[]api.Stay(nil), 0, api.ErrNone})
	y.Docks = append(y.Docks, changed(y.Docks[0], func(d *api.Dock) { d.Name = "Third" }))
	l, cost, e = berth.Best(y)
	want(t, "a third dock", []any{l, cost, e}, []any{[]api.Stay{stay("Ada", "Small", 0), stay("Bea", "Third", 1), stay("Cleo", "Big", 0)}, 0, api.OK})
	y.Docks = nil
	l, cost, e = berth.Best(y)
	wantError(t, "no docks", api.ErrNone, e, l, cost)
	y.Calls = nil
	l, cost, e = berth.Best(y)
	want(t, "nothing", []any{l, cost, e}, []any{[]api.Stay(nil), 0, api.OK})
}

func TestBestOfTooMuch(t *testing.T) {
	y := api.Yard{Docks: once(dock()), Sea: tideOn(days(0, 60)...), Last: 60}
	for i := range 5 {
		y.Calls = append(y.Calls, changed(deep(100), func(c *api.Call) { c.Name, c.Work = fmt.Sprint("S", i), 15 }))
	}
	l, cost, e := berth.Best(y)
	wantError(t, "five ships", api.ErrLarge, e, l, cost)
	y.Calls = y.Calls[:4]
	l, cost, e = berth.Best(y)
	want(t, "four ships", []any{l, cost, e}, []any{[]api.Stay{stay("S0", "Dock", 0), stay("S1", "Dock", 15), stay("S2", "Dock", 30), stay("S3", "Dock", 45)}, 0, api.OK})
	y.Last = 61
	l, cost, e = berth.Best(y)
	wantError(t, "61 days", api.ErrLarge, e, l, cost)
	y.Calls = nil
	l, cost, e = berth.Best(y)
	wantError(t, "61 days of nothing", api.ErrLarge, e, l, cost)
}

// secondStays reports whether stays of ships of the yard, in its order, are right, day by day.
func secondStays(y api.Yard, s []api.Stay) bool {
	taken := map[string]bool{}
	for i, c := range y.Calls {
		d := y.Docks[slices.IndexFunc(y.Docks, func(d api.Dock) bool { return d.Name == s[i].Dock })]
		fit, _ := berth.Fits(d, c)
		on, _ := berth.Days(d, c, y.Sea)
		if !fit || s[i].Day < c.Arrive || s[i].Day+c.Work > y.Last || !slices.Contains(on, s[i].Day) || !slices.Contains(on, s[i].Day+c.Work) {
			return false
		}
		for day := range c.Work {
			at := fmt.Sprint(d.Name, " ", s[i].Day+day)
			if taken[at] {
				return false
			}
			taken[at] = true
		}
	}
	return true
}

// secondBest goes through all lists of stays, in their order.
func secondBest(y api.Yard) (best []api.Stay, least int) {
	var next func(s []api.Stay)
	next = func(s []api.Stay) {
		if !secondStays(api.Yard{Docks: y.Docks, Calls: y.Calls[:len(s)], Sea: y.Sea, Last: y.Last}, s) {
			return
		}
		if len(s) < len(y.Calls) {
			for _, d := range y.Docks {
				for day := range y.Last + 1 {
					next(append(slices.Clone(s), stay(y.Calls[len(s)].Name, d.Name, day)))
				}
			}
			return
		}
		cost := 0
		for i, c := range y.Calls {
			if late := s[i].Day + c.Work - c.Due; late > 0 {
				cost += late * c.Late
			}
		}
		if best == nil || cost < least {
			best, least = s, cost
		}
	}
	next(nil)
	return best, least
}

func randomYard(r *rand.Rand) api.Yard {
	y := api.Yard{Last: between(r, 4, 9), Sea: []api.Mark{{Minute: 0, Level: 100}}}
	for day := range 10 {
		y.Sea = append(y.Sea, api.Mark{Minute: 1440*day + 700, Level: 100 - 30*r.Intn(2)}, api.Mark{Minute: 1440*day + 1400, Level: 100 - 30*r.Intn(3)})
	}
	for i := range between(r, 1, 3) {
		y.Docks = append(y.Docks, api.Dock{Name: fmt.Sprint("D", i), Length: between(r, 3, 8), Width: 5, Sill: 10 * r.Intn(3)})
	}
	for i := range between(r, 1, 4) {
		y.Calls = append(y.Calls, api.Call{
			Name: fmt.Sprint("S", i), Length: between(r, 2, 6), Beam: 4, Draught: 60, Under: 10 * r.Intn(3),
			Arrive: r.Intn(3), Work: between(r, 1, 4), Due: between(r, 2, 7), Late: r.Intn(4),
		})
	}
	return y
}

func TestBestBySecondOpinion(t *testing.T) {
	r := rand.New(rand.NewSource(22))
	count := map[string]int{}
	for range 400 {
		y := randomYard(r)
		wanted, least := secondBest(y)
		l, cost, e := berth.Best(y)
		if wanted == nil {
			wantError(t, fmt.Sprint(y), api.ErrNone, e, l, cost)
			count["none"]++
			continue
		}
		want(t, fmt.Sprint(y), []any{l, cost, e}, []any{wanted, least, api.OK})
		again, e := berth.Cost(y, l)
		want(t, fmt.Sprint(y), []any{again, e}, []any{least, api.OK})
		count[fmt.Sprint(len(l))]++
		count[fmt.Sprint("cost ", min(cost, 1))]++
	}
	for _, what := range []string{"none", "1", "2", "3", "4", "cost 0", "cost 1"} {
		if count[what] < 20 {
			t.Error(count)
		}
	}
}

// P6.8: no accepted list of stays is cheaper than that of Best, nor is one as cheap that comes
// before it.
func TestNoStaysAreCheaper(t *testing.T) {
	r := rand.New(rand.NewSource(23))
	count := map[api.Errno]int{}
	for range 300 {
		y := randomYard(r)
		_, least, found := berth.Best(y)
		for range 200 {
			var s []api.Stay
			for _, c := range y.Calls {
				s = append(s, stay(c.Name, fmt.Sprint("D", r.Intn(3)), r.Intn(8)))
			}
			cost, e := berth.Cost(y, s)
			count[e]++
			if e == api.OK && (found != api.OK || cost < least) {
				t.Error(y, s, cost, least, found)
			}
		}
	}
	for _, e := range []api.Errno{api.OK, api.ErrMissing, api.ErrLimit, api.ErrState, api.ErrRange, api.ErrNone, api.ErrClash} {
		if count[e] < 50 {
			t.Error(count)
		}
	}
}
