package schedule_test

import (
	"fmt"
	"math"
	"math/rand"
	"slices"
	"strings"
	"testing"

	"keelblock/api"
	"keelblock/schedule"
)

// P8.1

// full is work with as much as there may be of everything.
func full() api.Work {
	w := api.Work{Hire: 1000000000, Late: 1000000000, Due: 400, Last: 400}
	for i := range 6 {
		w.Trades = append(w.Trades, api.Trade{Name: fmt.Sprint("T", i), Crew: 1000, Rate: 1000000})
	}
	for i := range 12 {
		s := api.Space{Name: fmt.Sprint("S", i)}
		for k := range 100 {
			s.Next = append(s.Next, fmt.Sprint("S", (i+k)%12))
		}
		w.Spaces = append(w.Spaces, s)
	}
	for i := range 30 {
		w.Exclusions = append(w.Exclusions, api.Exclusion{A: i % 6, B: i / 5 % 6, Reach: i % 3})
	}
	for i := range 20 {
		w.Outages = append(w.Outages, api.Outage{From: i, To: 400})
	}
	for i := range 40 {
		x := api.Item{Name: fmt.Sprint("I", i), Trade: fmt.Sprint("T", i%6), Modes: modes(60, 1000, 1, 0, 1, 1000), Kind: i%7 - 1, Space: fmt.Sprint("S", i%12), Crane: true}
		for k := range i {
			x.After = append(x.After, fmt.Sprint("I", k), fmt.Sprint("I", k))
		}
		w.Items = append(w.Items, x)
	}
	slices.Reverse(w.Items)
	return w
}

func TestCheckWork(t *testing.T) {
	for _, x := range []struct {
		what string
		w    api.Work
	}{
		{"example 1", work()}, {"example 2", queue()}, {"example 3", spaces()}, {"the fullest work", full()}, {"empty work", api.Work{}},
		{"one name for all", api.Work{
			Items: []api.Item{{Name: "x", Trade: "x", Modes: modes(1, 0), Kind: 0, Space: "x"}}, Trades: []api.Trade{{Name: "x"}}, Spaces: []api.Space{{Name: "x", Next: []string{"x", "x"}}},
		}},
		{"a space without a kind", changed(spaces(), func(w *api.Work) { w.Items[0].Kind = -1 })},
		{"an item twice in After", changed(work(), func(w *api.Work) { w.Items[0].After = []string{"b", "b"} })},
		{"a neighbour that comes later", changed(spaces(), func(w *api.Work) { w.Spaces[0].Next = []string{"deck", "hold"} })},
		{"modes that are alike", changed(work(), func(w *api.Work) { w.Items[0].Modes = modes(2, 1, 2, 1, 2, 1) })},
		{"outages that meet", changed(spaces(), func(w *api.Work) { w.Outages = []api.Outage{{From: 5, To: 7}, {From: 0, To: 400}} })},
	} {
		want(t, x.what, schedule.CheckWork(x.w), api.OK)
	}
}

func TestNumbersOfWork(t *testing.T) {
	for _, x := range []struct {
		what        string
		least, most int
		set         func(w *api.Work, n int)
	}{
		{"Crew of a trade", 0, 1000, func(w *api.Work, n int) { w.Items, w.Trades[0].Crew = nil, n }},
		{"Rate", 0, 1000000, func(w *api.Work, n int) { w.Trades[0].Rate = n }},
		{"A", 0, 5, func(w *api.Work, n int) { w.Exclusions[0].A = n }},
		{"B", 0, 5, func(w *api.Work, n int) { w.Exclusions[0].B = n }},
		{"Reach", 0, 2, func(w *api.Work, n int) { w.Exclusions[0].Reach = n }},
		{"Days of the first mode", 1, 60, func(w *api.Work, n int) { w.Items[1].Modes[0].Days = n }},
		{"Days of the last mode", 1, 60, func(w *api.Work, n int) { w.Items[1].Modes[1].Days = n }},
		{"Crew of a mode", 0, 1000, func(w *api.Work, n int) { w.Trades[0].Crew, w.Items[1].Modes[1].Crew = 1000, n }},
		{"Kind", -1, 5, func(w *api.Work, n int) { w.Items[0].Kind = n }},
		{"Hire", 0, 1000000000, func(w *api.Work, n int) { w.Hire = n }},
		{"Late", 0, 1000000000, func(w *api.Work, n int) { w.Late = n }},
		{"Due", 0, 400, func(w *api.Work, n int) { w.Due = n }},
		{"Last", 0, 400, func(w *api.Work, n int) { w.Last = n }},
	} {
		wantBounds(t, x.what, x.least, x.most, api.ErrRange, func(n int) api.Errno {
			return schedule.CheckWork(changed(spaces(), func(w *api.Work) { x.set(w, n) }))
		})
	}
	for crew, e := range map[int]api.Errno{4: api.OK, 5: api.OK, 6: api.ErrCapacity, 1000: api.ErrCapacity, 1001: api.ErrRange} {
		w := changed(spaces(), func(w *api.Work) { w.Items[1].Modes[1].Crew = crew })
		want(t, fmt.Sprint("Crew of a mode of a trade of 5: ", crew), schedule.CheckWork(w), e)
	}
	for o, e := range map[api.Outage]api.Errno{
		{From: 0, To: 1}: api.OK, {From: 399, To: 400}: api.OK, {From: 0, To: 400}: api.OK,
		{From: 0, To: 0}: api.ErrOrder, {From: 400, To: 400}: api.ErrOrder, {From: 400, To: 0}: api.ErrOrder, {From: 6, To: 5}: api.ErrOrder,
		{From: -1, To: 5}: api.ErrRange, {From: 400, To: 401}: api.ErrRange, {From: 401, To: 400}: api.ErrRange, {From: 5, To: -1}: api.ErrRange,
		{From: math.MinInt, To: 5}: api.ErrRange, {From: 5, To: math.MaxInt}: api.ErrRange, {From: math.MaxInt, To: math.MinInt}: api.ErrRange,
	} {
		w := changed(spaces(), func(w *api.Work) { w.Outages[0] = o })
		want(t, fmt.Sprint("the outage ", o), schedule.CheckWork(w), e)
	}
}

func TestNamesOfWork(t *testing.T) {
	for _, x := range []struct {
		name   string
		wanted api.Errno
	}{
		{"q", api.OK}, {"Z", api.OK}, {"z9-", api.OK}, {"A-----------", api.OK}, {"abcdefghijkl", api.OK}, {"mnopqrstuvwx", api.OK},
		{"yzABCDEFGHIJ", api.OK}, {"KLMNOPQRSTUV", api.OK}, {"WXYZ01234567", api.OK}, {"x89", api.OK},
		{"", api.ErrName}, {"1a", api.ErrName}, {"-a", api.ErrName}, {"abcdefghijklm", api.ErrName}, {"a b", api.ErrName}, {" a", api.ErrName},
		{"a ", api.ErrName}, {"a_b", api.ErrName}, {"a.", api.ErrName}, {"a/", api.ErrName}, {"a:", api.ErrName}, {"@a", api.ErrName}, {"[a", api.ErrName},
		{"`a", api.ErrName}, {"{a", api.ErrName}, {"a,b", api.ErrName}, {"aé", api.ErrName}, {"éa", api.ErrName}, {"a\xff", api.ErrName}, {"\xff", api.ErrName},
		{"a\x00", api.ErrName}, {"a\n", api.ErrName}, {strings.Repeat("a", 100000), api.ErrName},
	} {
		trade := changed(work(), func(w *api.Work) { w.Trades = append(w.Trades, api.Trade{Name: x.name}) })
		want(t, fmt.Sprintf("the trade %q", x.name), schedule.CheckWork(trade), x.wanted)
		space := changed(work(), func(w *api.Work) { w.Spaces = append(w.Spaces, api.Space{Name: x.name}) })
		want(t, fmt.Sprintf("the space %q", x.name), schedule.CheckWork(space), x.wanted)
		other := changed(work(), func(w *api.Work) { w.Items = append(w.Items, item(x.name, modes(1, 1))) })
		want(t, fmt.Sprintf("the item %q", x.name), schedule.CheckWork(other), x.wanted)
	}
}

// A fault is a change after which work has an error.
type fault struct {
	what string
	e    api.Errno
	do   func(w *api.Work)
}

// many are so many things, each with a name of its own.
func many[T any](count int, make func(name string) T) []T {
	var out []T
	for i := range count {
		out = append(out, make(fmt.Sprint("N", i)))
	}
	return out
}

// faults are in the order in which the errors of work are looked for. No one undoes another one.
func faults() []fault {
	return []fault{
		{"7 trades", api.ErrLarge, func(w *api.Work) {
			w.Trades = append(w.Trades, many(6, func(name string) api.Trade { return api.Trade{Name: name} })...)
		}},
		{"the crew of a trade", api.ErrRange, func(w *api.Work) { w.Trades[0].Crew = 1001 }},
		{"a trade twice", api.ErrExists, func(w *api.Work) { w.Trades = append(w.Trades, w.Trades[0]) }},
		{"13 spaces", api.ErrLarge, func(w *api.Work) {
			w.Spaces = append(w.Spaces, many(10, func(name string) api.Space { return api.Space{Name: name} })...)
		}},
		{"a neighbour that is missing", api.ErrMissing, func(w *api.Work) { w.Spaces[1].Next = []string{"tank", "mast"} }},
		{"the name of the third space", api.ErrName, func(w *api.Work) { w.Spaces[2].Name = "1" }},
		{"31 exclusions", api.ErrLarge, func(w *api.Work) { w.Exclusions = append(w.Exclusions, make([]api.Exclusion, 30)...) }},
		{"an exclusion", api.ErrRange, func(w *api.Work) { w.Exclusions = append(w.Exclusions, api.Exclusion{Reach: 3}) }},
		{"21 outages", api.ErrLarge, func(w *api.Work) { w.Outages = append(w.Outages, make([]api.Outage, 20)...) }},
		{"an outage", api.ErrRange, func(w *api.Work) { w.Outages[0].To = 401 }},
		{"an outage of no day", api.ErrOrder, func(w *api.Work) { w.Outages = append(w.Outages, api.Outage{From: 7, To: 7}) }},
		{"41 items", api.ErrLarge, func(w *api.Work) {
			w.Items = append(w.Items, many(38, func(name string) api.Item { return item(name, modes(1, 1)) })...)
		}},
		{"the name of the first item", api.ErrName, func(w *api.Work) { w.Items[0].Name = "" }},
		{"an item without a trade", api.ErrMissing, func(w *api.Work) { w.Items[1].Trade = "" }},
		{"an item twice", api.ErrExists, func(w *api.Work) { w.Items[2].Name = "x" }},
		{"the hire", api.ErrRange, func(w *api.Work) { w.Hire = -1 }},
		{"a circle", api.ErrCycle, func(w *api.Work) {
			w.Items[0].After, w.Items[1].After = []string{"y"}, []string{"x"}
		}},
	}
}

// faulty returns work with faults.
func faulty(l ...fault) api.Work {
	w := spaces()
	for _, x := range l {
		x.do(&w)
	}
	return w
}

func TestErrorsOfWork(t *testing.T) {
	all := faults()
	for i, x := range all {
		want(t, x.what, schedule.CheckWork(faulty(x)), x.e)
		for _, y := range all[i+1:] {
			want(t, x.what+" before "+y.what, schedule.CheckWork(faulty(y, x)), x.e)
		}
	}
}

// Of one thing, too, the errors are looked for in the order of the chapter.
func TestErrorsOfOneThing(t *testing.T) {
	for _, x := range []fault{
		{"the name of a trade before its numbers", api.ErrName, func(w *api.Work) { w.Trades[0] = api.Trade{Name: "?", Crew: -1} }},
		{"a trade twice before its numbers", api.ErrExists, func(w *api.Work) { w.Trades = append(w.Trades, api.Trade{Name: "w", Rate: -1}) }},
		{"a trade before the next one", api.ErrRange, func(w *api.Work) {
			w.Trades[0].Rate = -1
			w.Trades = append(w.Trades, api.Trade{Name: "w"})
		}},
		{"6 trades", api.OK, func(w *api.Work) {
			w.Trades = append(w.Trades, many(5, func(name string) api.Trade { return api.Trade{Name: name} })...)
		}},
		{"12 spaces", api.OK, func(w *api.Work) {
			w.Spaces = append(w.Spaces, many(9, func(name string) api.Space { return api.Space{Name: name} })...)
		}},
		{"a space twice", api.ErrExists, func(w *api.Work) { w.Spaces[2].Name = "hold" }},
		{"a space twice before its neighbours", api.ErrExists, func(w *api.Work) { w.Spaces[2] = api.Space{Name: "hold", Next: []string{"?"}} }},
		{"the neighbours of a space before the next space", api.ErrMissing, func(w *api.Work) { w.Spaces[0].Next, w.Spaces[1].Name = []string{"?"}, "" }},
		{"an item as a neighbour", api.ErrMissing, func(w *api.Work) { w.Spaces[0].Next = []string{"x"} }},
		{"30 exclusions", api.OK, func(w *api.Work) { w.Exclusions = make([]api.Exclusion, 30) }},
		{"20 outages", api.OK, func(w *api.Work) { w.Outages = slices.Repeat([]api.Outage{{From: 1, To: 2}}, 20) }},
		{"the order of an outage before the numbers of the next one", api.ErrOrder, func(w *api.Work) {
			w.Outages = []api.Outage{{From: 2, To: 2}, {From: -1, To: 2}}
		}},
		{"the numbers of an outage before its order", api.ErrRange, func(w *api.Work) { w.Outages = []api.Outage{{From: 401, To: 2}} }},
		{"an outage backward", api.ErrOrder, func(w *api.Work) { w.Outages = []api.Outage{{From: 3, To: 2}} }},
		{"40 items", api.OK, func(w *api.Work) {
			w.Items = append(w.Items, many(37, func(name string) api.Item { return item(name, modes(1, 1)) })...)
		}},
		{"the name of an item before its trade", api.ErrName, func(w *api.Work) { w.Items[1].Name, w.Items[1].Trade = "", "" }},
		{"an item twice before its trade", api.ErrExists, func(w *api.Work) { w.Items[1].Name, w.Items[1].Trade = "x", "" }},
		{"a space as a trade", api.ErrMissing, func(w *api.Work) { w.Items[1].Trade = "tank" }},
		{"a trade before the modes", api.ErrMissing, func(w *api.Work) { w.Items[1].Trade, w.Items[1].Modes = "v", nil }},
		{"no mode", api.ErrRange, func(w *api.Work) { w.Items[1].Modes = nil }},
		{"3 modes", api.OK, func(w *api.Work) { w.Items[1].Modes = modes(1, 1, 1, 2, 1, 3) }},
		{"4 modes", api.ErrRange, func(w *api.Work) { w.Items[1].Modes = modes(1, 1, 1, 2, 1, 3, 1, 4) }},
		{"4 modes before a mode", api.ErrRange, func(w *api.Work) { w.Items[1].Modes = modes(1, 6, 1, 1, 1, 1, 1, 1) }},
		{"a mode before the next one", api.ErrCapacity, func(w *api.Work) { w.Items[1].Modes = modes(1, 6, 0, 1) }},
		{"the numbers of a mode before its crew", api.ErrRange, func(w *api.Work) { w.Items[1].Modes = modes(61, 6) }},
		{"the modes before the space", api.ErrCapacity, func(w *api.Work) { w.Items[1].Modes, w.Items[1].Space = modes(1, 6), "mast" }},
		{"the crew of the trade of the item", api.ErrCapacity, func(w *api.Work) {
			w.Trades = append(w.Trades, api.Trade{Name: "v", Crew: 1})
			w.Items[1].Trade, w.Items[1].Modes = "v", modes(1, 2)
		}},
		{"no such space", api.ErrMissing, func(w *api.Work) { w.Items[1].Space = "mast" }},
		{"no such space of an item without a kind", api.ErrMissing, func(w *api.Work) { w.Items[2].Space = "mast" }},
		{"the space before the kind", api.ErrMissing, func(w *api.Work) { w.Items[1].Space, w.Items[1].Kind = "mast", 6 }},
		{"the kind before an empty space", api.ErrRange, func(w *api.Work) { w.Items[1].Space, w.Items[1].Kind = "", 6 }},
		{"a kind with an empty space", api.ErrForm, func(w *api.Work) { w.Items[1].Space = "" }},
		{"the first kind with an empty space", api.ErrForm, func(w *api.Work) { w.Items[0].Space = "" }},
		{"an empty space before After", api.ErrForm, func(w *api.Work) { w.Items[1].Space, w.Items[1].After = "", []string{"?"} }},
		{"After is missing", api.ErrMissing, func(w *api.Work) { w.Items[1].After = []string{"x", "w"} }},
		{"After is empty", api.ErrMissing, func(w *api.Work) { w.Items[1].After = []string{""} }},
		{"After is the item itself", api.ErrForm, func(w *api.Work) { w.Items[1].After = []string{"x", "y", "?"} }},
		{"After is missing before it is the item itself", api.ErrMissing, func(w *api.Work) { w.Items[1].After = []string{"?", "y"} }},
		{"After before the next item", api.ErrForm, func(w *api.Work) { w.Items[0].After, w.Items[1].Name = []string{"x"}, "" }},
		{"an item of another name", api.ErrMissing, func(w *api.Work) { w.Items[1].After = []string{"X"} }},
		{"the late cost before a circle", api.ErrRange, func(w *api.Work) {
			w.Late, w.Items[0].After, w.Items[1].After = -1, []string{"y"}, []string{"x"}
		}},
		{"two items in a circle", api.ErrCycle, func(w *api.Work) { w.Items[0].After, w.Items[1].After = []string{"y"}, []string{"x"} }},
		{"three items in a circle", api.ErrCycle, func(w *api.Work) {
			w.Items[0].After, w.Items[1].After, w.Items[2].After = []string{"y"}, []string{"z"}, []string{"x"}
		}},
		{"no circle", api.OK, func(w *api.Work) { w.Items[0].After, w.Items[1].After = []string{"y", "z"}, []string{"z"} }},
	} {
		want(t, x.what, schedule.CheckWork(faulty(x)), x.e)
	}
}

func TestLongCircle(t *testing.T) {
	w := full()
	w.Items[39].After = []string{"I39"} // that of I0
	want(t, "a circle of all items", schedule.CheckWork(w), api.ErrCycle)
	w.Items[39].After = nil
	w.Items[0].After = nil
	want(t, "no circle", schedule.CheckWork(w), api.OK)
}

// The error of work comes before all others, in every function.
func TestErrorsOfWorkComeFirst(t *testing.T) {
	for _, x := range faults() {
		w := faulty(x)
		s := []api.Slot{slot("x", 0, 0), slot("y", 0, 2), slot("z", 0, 3)}
		for _, s := range [][]api.Slot{s, nil, {slot("?", -1, -1), slot("x", 0, 0), slot("x", 0, 0)}} {
			breaches, e := schedule.Breaches(w, s)
			wantError(t, "Breaches with "+x.what, x.e, e, breaches)
			want(t, "CheckPlan with "+x.what, schedule.CheckPlan(w, s), x.e)
			n, e := schedule.Days(w, s)
			wantError(t, "Days with "+x.what, x.e, e, n)
			n, e = schedule.Cost(w, s)
			wantError(t, "Cost with "+x.what, x.e, e, n)
			load, e := schedule.Load(w, s, "?")
			wantError(t, "Load with "+x.what, x.e, e, load)
			again, n, e := schedule.Repair(w, s, 401)
			wantError(t, "Repair with "+x.what, x.e, e, again, n)
			asks, e := schedule.Asks(w, s)
			wantError(t, "Asks with "+x.what, x.e, e, asks)
			text, e := schedule.PrintPlan(w, s)
			wantError(t, "PrintPlan with "+x.what, x.e, e, text)
		}
		l, e := schedule.Order(w)
		wantError(t, "Order with "+x.what, x.e, e, l)
		first, n, e := schedule.Earliest(w)
		wantError(t, "Earliest with "+x.what, x.e, e, first, n)
		last, e := schedule.Latest(w, -1)
		wantError(t, "Latest with "+x.what, x.e, e, last)
		l, e = schedule.Critical(w)
		wantError(t, "Critical with "+x.what, x.e, e, l)
		excludes, e := schedule.Excludes(w, "x", "?")
		wantError(t, "Excludes with "+x.what, x.e, e, excludes)
		s, e = schedule.Lists(w, nil, []int{-1})
		wantError(t, "Lists with "+x.what, x.e, e, s)
		b, e := schedule.BestBound(w)
		wantError(t, "BestBound with "+x.what, x.e, e, b)
		want(t, "CheckBound with "+x.what, schedule.CheckBound(w, api.Bound{Trade: "?"}), x.e)
		w.Last = max(w.Last, 61)
		s, e = schedule.Shortest(w)
		wantError(t, "Shortest with "+x.what, x.e, e, s)
		s, n, e = schedule.Cheapest(w)
		wantError(t, "Cheapest with "+x.what, x.e, e, s, n)
		grown, e := schedule.Grow(w, "?", 61)
		wantError(t, "Grow with "+x.what, x.e, e, grown)
	}
}

func TestOrder(t *testing.T) {
	for _, x := range []struct {
		what   string
		after  [][]string // of a, b, c, d
		wanted []string
	}{
		{"no ties", [][]string{nil, nil, nil, nil}, []string{"a", "b", "c", "d"}},
		{"backward", [][]string{{"b"}, {"c"}, {"d"}, nil}, []string{"d", "c", "b", "a"}},
		{"the first one that is free", [][]string{{"d"}, nil, {"a"}, nil}, []string{"b", "d", "a", "c"}},
		{"a first one that is freed", [][]string{{"c"}, {"d"}, nil, nil}, []string{"c", "a", "d", "b"}},
		{"two that are waited for", [][]string{{"c", "d"}, nil, nil, {"c"}}, []string{"b", "c", "d", "a"}},
		{"twice", [][]string{{"b", "b"}, nil, {"b", "a", "b"}, nil}, []string{"b", "a", "c", "d"}},
	} {
		w := work()
		w.Items = nil
		for i, name := range []string{"a", "b", "c", "d"} {
			w.Items = append(w.Items, item(name, modes(1, 1), x.after[i]...))
		}
		l, e := schedule.Order(w)
		want(t, x.what, []any{l, e}, []any{x.wanted, api.OK})
	}
	l, e := schedule.Order(api.Work{})
	want(t, "nothing", []any{l, e}, []any{[]string(nil), api.OK})
	l, e = schedule.Order(full())
	want(t, "the fullest work", []any{len(l), l[0], l[39], e}, []any{40, "I0", "I39", api.OK})
}

// The first order is the first one of all orders that is right.
func TestOrderBySecondOpinion(t *testing.T) {
	r := rand.New(rand.NewSource(81))
	for range 3000 {
		w := right(t, randomWork(r, 6))
		wanted := slices.IndexFunc(secondOrders(names(w)), func(order []string) bool { return isOrder(w, order) })
		l, e := schedule.Order(w)
		want(t, "Order", []any{l, e}, []any{secondOrders(names(w))[wanted], api.OK})
	}
}

// isOrder reports whether each item stands behind those of its After.
func isOrder(w api.Work, order []string) bool {
	for i, name := range order {
		for _, other := range w.Items[secondPlace(w, name)].After {
			if !slices.Contains(order[:i], other) {
				return false
			}
		}
	}
	return true
}
