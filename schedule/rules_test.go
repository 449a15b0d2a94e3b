package schedule_test

import (
	"math"
	"math/rand"
	"reflect"
	"testing"
	"time"

	"keelblock/api"
	"keelblock/schedule"
)

// P1 and P2: what DOC.md's rules say of all functions.

// roomyWork is the same work in lists that have room behind their ends.
func roomyWork(w api.Work) api.Work {
	w.Items, w.Trades, w.Spaces = roomy(w.Items), roomy(w.Trades), roomy(w.Spaces)
	w.Exclusions, w.Outages = roomy(w.Exclusions), roomy(w.Outages)
	for i, x := range w.Items {
		w.Items[i].Modes, w.Items[i].After = roomy(x.Modes), roomy(x.After)
	}
	for i, s := range w.Spaces {
		w.Spaces[i].Next = roomy(s.Next)
	}
	return w
}

func TestResultsAreNew(t *testing.T) {
	late := changed(spaces(), func(w *api.Work) { w.Items[2].After = []string{"y", "x"} })
	for _, w := range []api.Work{{}, work(), queue(), spaces(), late, full(), faulty(faults()[0]), faulty(faults()[16])} {
		w = roomyWork(w)
		wantOwn(t, "CheckWork", schedule.CheckWork, w)
		wantOwn(t, "Order", schedule.Order, w)
		wantOwn(t, "Earliest", schedule.Earliest, w)
		wantOwn(t, "Latest", schedule.Latest, w, 9)
		wantOwn(t, "Critical", schedule.Critical, w)
		wantOwn(t, "BestBound", schedule.BestBound, w)
		wantOwn(t, "Shortest", schedule.Shortest, w)
		wantOwn(t, "Cheapest", schedule.Cheapest, w)
		for _, name := range []string{"a", "x", "?"} {
			wantOwn(t, "Excludes", schedule.Excludes, w, name, "y")
			wantOwn(t, "Grow", schedule.Grow, w, name, 2)
		}
		b, _ := schedule.BestBound(w)
		for _, b := range []api.Bound{b, {Chain: roomy([]string{"x", "y"})}, {Trade: "w"}} {
			wantOwn(t, "CheckBound", schedule.CheckBound, w, b)
		}
		order, _ := schedule.Order(w)
		for _, modes := range [][]int{nil, roomy(make([]int, len(order)))} {
			wantOwn(t, "Lists", schedule.Lists, w, roomy(order), modes)
		}
		plan, _ := schedule.Lists(w, order, make([]int, len(order)))
		clash := roomy(plan)
		for i := range clash {
			clash[i].Day = 1
		}
		for _, s := range [][]api.Slot{nil, roomy(plan), clash, {slot("?", 0, 0)}} {
			wantOwn(t, "Breaches", schedule.Breaches, w, s)
			wantOwn(t, "CheckPlan", schedule.CheckPlan, w, s)
			wantOwn(t, "Days", schedule.Days, w, s)
			wantOwn(t, "Cost", schedule.Cost, w, s)
			wantOwn(t, "Load", schedule.Load, w, s, "w")
			wantOwn(t, "Repair", schedule.Repair, w, s, 0)
			wantOwn(t, "Asks", schedule.Asks, w, s)
			wantOwn(t, "PrintPlan", schedule.PrintPlan, w, s)
		}
	}
}

// wild is a number that may be within its limits or not, wildName a name that may be there or not.
func wild(r *rand.Rand, usual ...int) int {
	if r.Intn(12) > 0 {
		return usual[r.Intn(len(usual))]
	}
	return []int{math.MinInt, -1, 0, 1, 2, 7, 60, 61, 400, 401, 1000000001, math.MaxInt}[r.Intn(12)]
}

func wildName(r *rand.Rand, usual ...string) string {
	if r.Intn(12) > 0 {
		return usual[r.Intn(len(usual))]
	}
	return []string{"", "?", "x", "y", "z", "w", "tank", "hold"}[r.Intn(8)]
}

// wildList has up to so many elements.
func wildList[T any](r *rand.Rand, most int, element func() T) []T {
	var out []T
	for range r.Intn(most + 1) {
		out = append(out, element())
	}
	return out
}

func wildWork(r *rand.Rand) api.Work {
	w := changed(spaces(), func(w *api.Work) {
		w.Hire, w.Due, w.Late, w.Last = wild(r, 3, 5), wild(r, 0, 4), wild(r, 0, 9), wild(r, 0, 5, 9, 60)
		w.Trades[0].Crew, w.Trades[0].Rate = wild(r, 0, 2, 5), wild(r, 0, 1)
		w.Outages = wildList(r, 2, func() api.Outage { return api.Outage{From: wild(r, 0, 1), To: wild(r, 2, 3)} })
		w.Exclusions = wildList(r, 2, func() api.Exclusion {
			return api.Exclusion{A: wild(r, 0, 1), B: wild(r, 0, 2), Reach: wild(r, 0, 1, 2)}
		})
	})
	for i := range w.Items {
		x := &w.Items[i]
		x.Name, x.Trade, x.Space, x.Kind, x.Crane = wildName(r, x.Name), wildName(r, x.Trade), wildName(r, "tank", "hold"), wild(r, -1, 0, 2), r.Intn(2) == 0
		x.Modes = append(x.Modes[:1], wildList(r, 2, func() api.Mode { return api.Mode{Days: wild(r, 1, 2, 3), Crew: wild(r, 0, 1, 2)} })...)
		x.After = wildList(r, 1, func() string { return wildName(r, "x", "y") })
	}
	return w
}

// No arguments make a function panic or go on for ever; beside an error there is no result, and that
// of the work is the first one.
func TestWildArguments(t *testing.T) {
	r := rand.New(rand.NewSource(96))
	count := map[api.Errno]int{}
	for range 10000 {
		w := wildWork(r)
		first := schedule.CheckWork(w)
		count[first]++
		name := wildName(r, "x", "y", "z")
		s := days(w, 0, 1, 2)
		for i := range s {
			s[i].Item, s[i].Mode, s[i].Day = wildName(r, s[i].Item), wild(r, 0, 1), wild(r, 0, 1, 3, 4)
		}
		if r.Intn(9) == 0 {
			s = s[1:]
		}
		order := []string{wildName(r, "x"), wildName(r, "y"), wildName(r, "z")}
		b := api.Bound{Days: wild(r, 0, 1), Chain: wildList(r, 2, func() string { return wildName(r, "x", "y") }), Trade: wildName(r, "", "w")}
		for what, call := range map[string][]any{
			"Order": {schedule.Order, w}, "Earliest": {schedule.Earliest, w}, "Latest": {schedule.Latest, w, wild(r, 9)}, "Critical": {schedule.Critical, w},
			"Excludes": {schedule.Excludes, w, name, wildName(r, "x")}, "Breaches": {schedule.Breaches, w, s}, "CheckPlan": {schedule.CheckPlan, w, s},
			"Days": {schedule.Days, w, s}, "Cost": {schedule.Cost, w, s}, "Load": {schedule.Load, w, s, wildName(r, "w")},
			"Lists": {schedule.Lists, w, order, []int{wild(r, 0), wild(r, 0, 1), wild(r, 0)}}, "BestBound": {schedule.BestBound, w}, "CheckBound": {schedule.CheckBound, w, b},
			"Shortest": {schedule.Shortest, w}, "Cheapest": {schedule.Cheapest, w}, "Repair": {schedule.Repair, w, s, wild(r, 0, 2)},
			"Grow": {schedule.Grow, w, name, wild(r, 1)}, "Asks": {schedule.Asks, w, s}, "PrintPlan": {schedule.PrintPlan, w, s},
		} {
			var in []reflect.Value
			for _, x := range call[1:] {
				in = append(in, reflect.ValueOf(x))
			}
			out := reflect.ValueOf(call[0]).Call(in)
			e := out[len(out)-1].Interface().(api.Errno)
			if e == api.OK && first == api.OK {
				continue
			}
			var results []any
			for _, x := range out[:len(out)-1] {
				results = append(results, x.Interface())
			}
			wanted := first
			if first == api.OK {
				wanted = e
			}
			wantError(t, what, wanted, e, results...)
		}
		if t.Failed() {
			t.Fatalf("%+v %v", w, s)
		}
	}
	for _, e := range []api.Errno{api.OK, api.ErrRange, api.ErrForm, api.ErrName, api.ErrExists, api.ErrMissing, api.ErrOrder, api.ErrCycle, api.ErrCapacity} {
		if count[e] < 50 {
			t.Error(count)
		}
	}
}

// The searches that were found to be among the longest ones end soon.
func TestTheLongestSearches(t *testing.T) {
	start := time.Now()
	for _, w := range hardWork() {
		right(t, w)
		short, e := schedule.Shortest(w)
		days, f := schedule.Days(w, short)
		want(t, "Shortest", []any{e, f}, []any{api.OK, api.OK})
		isBounded(t, w, days)
		cheap, cost, e := schedule.Cheapest(w)
		price, f := schedule.Cost(w, cheap)
		want(t, "Cheapest", []any{e, f, price}, []any{api.OK, api.OK, cost})
		if more, _ := schedule.Cost(w, short); more < cost {
			t.Errorf("the shortest plan costs %d, the cheapest one %d", more, cost)
		}
		var s []api.Slot
		for i, x := range w.Items {
			s = append(s, slot(x.Name, 0, i))
		}
		p, _, e := schedule.Repair(w, s, 0)
		want(t, "Repair", []any{e, schedule.CheckPlan(w, p)}, []any{api.OK, api.OK})
	}
	if used := time.Since(start); used > 30*time.Second {
		t.Error(used)
	}
}

// hardWork is work with 8 items, three modes and little to choose by.
func hardWork() []api.Work {
	crane := func(x api.Item) api.Item { x.Crane = true; return x }
	of := func(crew, rate int, l ...api.Item) api.Work {
		w := items(crew, l...)
		w.Trades[0].Rate, w.Hire, w.Late, w.Due = rate, 6967, 5987, 10
		return w
	}
	return []api.Work{
		of(17, 863, item("A", modes(2, 8, 1, 12, 20, 4)), crane(item("B", modes(6, 2, 7, 0, 4, 7))), crane(item("C", modes(4, 1, 2, 10))), crane(item("D", modes(2, 14, 3, 6, 2, 7))),
			item("E", modes(5, 7, 9, 5, 11, 4)), crane(item("F", modes(9, 15, 1, 6, 3, 10))), item("G", modes(10, 1, 3, 6, 1, 7)), crane(item("H", modes(17, 1, 18, 0)))),
		of(7, 190, crane(item("A", modes(7, 0, 6, 3))), item("B", modes(12, 2, 1, 5, 11, 3)), crane(item("C", modes(9, 0, 10, 2, 7, 1))), item("D", modes(2, 3, 1, 4, 13, 1)),
			item("E", modes(6, 4, 17, 5, 12, 3)), crane(item("F", modes(14, 1), "G", "C")), item("G", modes(14, 3, 19, 1, 8, 2)), crane(item("H", modes(16, 2, 14, 6)))),
		of(13, 904, crane(item("A", modes(12, 3, 9, 11, 5, 7))), item("B", modes(11, 2, 9, 9, 1, 11)), crane(item("C", modes(4, 9, 16, 0, 11, 1))), crane(item("D", modes(8, 0, 5, 10))),
			crane(item("E", modes(2, 3, 8, 1, 4, 2))), crane(item("F", modes(14, 2, 13, 3))), crane(item("G", modes(9, 1, 6, 10))), item("H", modes(1, 6, 13, 3))),
		of(17, 40, item("A", modes(5, 5, 11, 0, 8, 4)), crane(item("B", modes(10, 11))), item("C", modes(6, 9, 10, 5)), crane(item("D", modes(17, 4, 11, 3))),
			item("E", modes(14, 2, 1, 4, 12, 3)), item("F", modes(8, 7, 14, 6, 16, 2)), crane(item("G", modes(6, 5, 8, 2, 2, 7))), crane(item("H", modes(18, 1, 3, 1, 8, 9)))),
		of(16, 878, item("A", modes(1, 6, 3, 10, 3, 1)), item("B", modes(7, 4, 5, 1, 13, 9)), item("C", modes(5, 11, 7, 3, 2, 10)), crane(item("D", modes(3, 6, 2, 4, 1, 6))),
			item("E", modes(4, 1, 3, 8)), item("F", modes(4, 5, 6, 4)), crane(item("G", modes(10, 6, 3, 2, 1, 9))), item("H", modes(4, 6, 5, 2))),
	}
}
