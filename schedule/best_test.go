package schedule_test

import (
	"fmt"
	"math/rand"
	"slices"
	"testing"

	"keelblock/api"
	"keelblock/schedule"
)

// P8.7

func wantShortest(t *testing.T, what string, w api.Work, wanted ...api.Slot) {
	t.Helper()
	s, e := schedule.Shortest(w)
	want(t, "Shortest of "+what, []any{s, e}, []any{wanted, api.OK})
}

func wantCheapest(t *testing.T, what string, w api.Work, cost int, wanted ...api.Slot) {
	t.Helper()
	s, n, e := schedule.Cheapest(w)
	want(t, "Cheapest of "+what, []any{s, n, e}, []any{wanted, cost, api.OK})
}

func wantNoPlan(t *testing.T, what string, w api.Work, wanted api.Errno) {
	t.Helper()
	s, e := schedule.Shortest(w)
	wantError(t, "Shortest of "+what, wanted, e, s)
	s, n, e := schedule.Cheapest(w)
	wantError(t, "Cheapest of "+what, wanted, e, s, n)
}

func TestBestPlansOfExamples(t *testing.T) {
	wantShortest(t, "example 1", work(), slot("a", 0, 0), slot("b", 0, 2))
	wantCheapest(t, "example 1", work(), 430, slot("a", 0, 0), slot("b", 0, 2))
	wantShortest(t, "example 2", queue(), slot("a", 0, 0), slot("b", 0, 2))
	wantCheapest(t, "example 2", queue(), 430, slot("a", 0, 0), slot("b", 0, 2))
	wantShortest(t, "example 3", spaces(), slot("x", 0, 0), slot("y", 0, 1), slot("z", 0, 2))
	wantCheapest(t, "example 3", spaces(), 7+0+3*4+20*2, slot("x", 0, 0), slot("y", 1, 1), slot("z", 0, 2))
	wantShortest(t, "nothing", api.Work{})
	wantCheapest(t, "nothing", api.Work{Hire: 9, Late: 9}, 0)
}

// The first plan may be one in which an item takes longer than it must, or waits.
func TestTheFirstPlan(t *testing.T) {
	w := items(2, item("a", modes(4, 1, 1, 2)), item("b", modes(4, 1)))
	wantShortest(t, "a slow mode beside another item", w, slot("a", 0, 0), slot("b", 0, 0))
	w.Items[1].Modes = modes(3, 2)
	wantShortest(t, "a fast mode", w, slot("a", 1, 0), slot("b", 0, 1))
	w = items(3, item("a", modes(1, 1)), item("b", modes(2, 2)), item("c", modes(2, 2)), item("d", modes(1, 2), "c"))
	// a may be done at once only beside b or c, and then the other one still waits
	wantShortest(t, "the least days in the order of the work", w, slot("a", 0, 0), slot("b", 0, 0), slot("c", 0, 2), slot("d", 0, 4))
	w = items(3, item("d", modes(1, 2), "c"), item("a", modes(1, 1)), item("b", modes(2, 2)), item("c", modes(2, 2)))
	wantShortest(t, "the first item early", w, slot("d", 0, 2), slot("a", 0, 0), slot("b", 0, 3), slot("c", 0, 0))
	// in the second mode of a the plan is as short, but the first mode comes before its day
	w = items(1, item("a", modes(2, 1, 2, 0), "b"), item("b", modes(1, 1)), item("c", modes(3, 0)))
	wantShortest(t, "a mode before a day", w, slot("a", 0, 1), slot("b", 0, 0), slot("c", 0, 0))
	w = items(1, item("a", modes(2, 0, 1, 1)), item("b", modes(2, 0), "a"))
	w.Last = 4
	wantShortest(t, "a mode that costs a day", w, slot("a", 1, 0), slot("b", 0, 1))
}

func TestTheCheapestPlan(t *testing.T) {
	// 3 days with a crew of 2 cost 60, 2 days with a crew of 4 cost 80
	w := items(4, item("a", modes(3, 2, 2, 4)))
	w.Trades[0].Rate = 10
	wantCheapest(t, "a slow mode", w, 60, slot("a", 0, 0))
	w.Hire = 19
	wantCheapest(t, "a slow mode with a hire", w, 60+57, slot("a", 0, 0))
	w.Hire = 20
	wantCheapest(t, "two modes that cost the same", w, 120, slot("a", 0, 0))
	w.Hire = 21
	wantCheapest(t, "a fast mode", w, 122, slot("a", 1, 0))
	w.Hire, w.Late, w.Due = 0, 21, 2
	wantCheapest(t, "a fast mode that is not late", w, 80, slot("a", 1, 0))
	w.Due = 3
	wantCheapest(t, "a slow mode that is not late", w, 60, slot("a", 0, 0))
	w.Due = 1
	wantCheapest(t, "both late", w, 80+21, slot("a", 1, 0))
	w.Items[0].Modes = modes(2, 4, 3, 2, 2, 4)
	wantCheapest(t, "the first one of two modes", w, 80+21, slot("a", 0, 0))
	w.Items = append(w.Items, item("b", modes(5, 0)))
	wantCheapest(t, "a slow mode beside a slow item", w, 60+84, slot("a", 1, 0), slot("b", 0, 0))
	w.Last = 4
	wantNoPlan(t, "a slow item", w, api.ErrNone)
	// the cheap mode fits only where the crane works
	w = items(1, item("a", modes(3, 0, 1, 1)))
	w.Items[0].Crane, w.Outages, w.Last, w.Trades[0].Rate = true, []api.Outage{{From: 2, To: 4}}, 7, 5
	wantCheapest(t, "a cheap mode behind an outage", w, 0, slot("a", 0, 4))
	wantShortest(t, "a short mode before an outage", w, slot("a", 1, 0))
	w.Last = 6
	wantCheapest(t, "no cheap mode", w, 5, slot("a", 1, 0))
	// costs beyond 2^32
	w = items(1000, item("a", modes(60, 1000)))
	w.Trades[0].Rate, w.Hire, w.Late = 1000000, 1000000000, 1000000000
	wantCheapest(t, "the greatest cost", w, 60*1000*1000000+60*2000000000, slot("a", 0, 0))
}

func TestLimitsOfBestPlans(t *testing.T) {
	eight := items(1, many(8, func(name string) api.Item { return item(name, modes(7, 1)) })...)
	eight.Last = 56
	var wanted []api.Slot
	for i, x := range eight.Items {
		wanted = append(wanted, slot(x.Name, 0, 7*i))
	}
	wantShortest(t, "8 items", eight, wanted...)
	wantCheapest(t, "8 items", eight, 0, wanted...)
	eight.Last = 60
	wantShortest(t, "8 items within 60 days", eight, wanted...)
	eight.Last = 55
	wantNoPlan(t, "8 items within 55 days", eight, api.ErrNone)
	eight.Last = 61
	wantNoPlan(t, "61 days", eight, api.ErrLarge)
	eight.Last = 60
	eight.Items = append(eight.Items, item("more", modes(1, 0)))
	wantNoPlan(t, "9 items", eight, api.ErrLarge)
	eight.Last = 0
	wantNoPlan(t, "9 items on no day", eight, api.ErrLarge)
	wantNoPlan(t, "61 days without items", api.Work{Last: 61}, api.ErrLarge)
	wantShortest(t, "60 days without items", api.Work{Last: 60})
	wantNoPlan(t, "no day", changed(work(), func(w *api.Work) { w.Last = 0 }), api.ErrNone)
	wantNoPlan(t, "two days for three", changed(work(), func(w *api.Work) { w.Last = 2 }), api.ErrNone)
	wantNoPlan(t, "outages", changed(spaces(), func(w *api.Work) { w.Outages = []api.Outage{{From: 1, To: 3}, {From: 4, To: 400}} }), api.ErrNone)
	last := changed(spaces(), func(w *api.Work) { w.Last, w.Outages = 60, []api.Outage{{From: 0, To: 58}} })
	wantShortest(t, "the last days", last, slot("x", 0, 0), slot("y", 0, 1), slot("z", 0, 58))
	last.Outages[0] = api.Outage{From: 0, To: 59}
	wantNoPlan(t, "a day too few", last, api.ErrNone)
	long := items(0, item("a", modes(60, 0)))
	wantShortest(t, "all days", long, slot("a", 0, 0))
}

// A better one of plans is kept.
type better struct {
	s     []api.Slot
	value int
}

func (b *better) see(s []api.Slot, value int) {
	if b.s == nil || value < b.value || value == b.value && secondOrder(s, b.s) < 0 {
		b.s, b.value = slices.Clone(s), value
	}
}

func wantBest(t *testing.T, w api.Work, short, cheap better) {
	t.Helper()
	what := fmt.Sprintf("%+v", w)
	if short.s == nil {
		wantNoPlan(t, what, w, api.ErrNone)
		return
	}
	wantShortest(t, what, w, short.s...)
	wantCheapest(t, what, w, cheap.value, cheap.s...)
}

// The best ones of all plans, and of those that repair slots.
func TestBestPlansBySecondOpinion(t *testing.T) {
	r := rand.New(rand.NewSource(88))
	count := map[int]int{}
	for range 300 {
		w := right(t, randomWork(r, 4))
		plans := secondPlans(w)
		var short, cheap better
		for _, s := range plans {
			short.see(s, secondDuration(w, s))
			cheap.see(s, secondCost(w, s))
		}
		wantBest(t, w, short, cheap)
		for range 4 {
			count[wantBestRepair(t, r, w, plans)]++
		}
	}
	for changes, least := range map[int]int{-1: 100, 0: 20, 1: 50, 2: 20, 3: 5} {
		if count[changes] < least {
			t.Error(count)
		}
	}
}

// wantBestRepair demands the best one of the plans that keep what random slots say of the days before
// now, and returns how many slots it changes, or -1 if there is none.
func wantBestRepair(t *testing.T, r *rand.Rand, w api.Work, plans [][]api.Slot) int {
	t.Helper()
	s, now := randomSlots(r, w), r.Intn(4)*r.Intn(2)
	if len(plans) > 0 && r.Intn(3) > 0 {
		s = slices.Clone(plans[r.Intn(len(plans))])
		for range between(r, 1, 2) {
			s[r.Intn(len(s))].Day = r.Intn(w.Last + 1)
		}
		r.Shuffle(len(s), func(i, k int) { s[i], s[k] = s[k], s[i] })
	}
	var best better
	least := -1
	for _, p := range plans {
		changes, allowed := secondChanges(p, s, now)
		if !allowed || least >= 0 && changes > least {
			continue
		}
		if changes != least {
			best, least = better{}, changes
		}
		best.see(p, secondCost(w, p))
	}
	what := fmt.Sprintf("Repair of %+v: %v at %d", w, s, now)
	if least < 0 {
		wantNoRepair(t, what, w, s, now, api.ErrNone)
	} else {
		wantRepair(t, what, w, s, now, least, best.s...)
	}
	return least
}

// secondChanges counts the slots that are others in a plan, and says whether they may be.
func secondChanges(plan, s []api.Slot, now int) (changes int, allowed bool) {
	for _, x := range plan {
		old, _ := secondSlot(s, x.Item)
		if x == old {
			continue
		}
		if old.Day < now || x.Day < now {
			return 0, false
		}
		changes++
	}
	return changes, true
}

// longWork has so many items, which take up to so many days.
func longWork(r *rand.Rand, items, days, modes int) api.Work {
	w := randomWork(r, items)
	for len(w.Items) < items {
		w = randomWork(r, items)
	}
	w.Last, w.Due = 60, r.Intn(60)
	for i := range w.Items {
		x := &w.Items[i]
		x.Modes = x.Modes[:min(len(x.Modes), modes)]
		for k := range x.Modes {
			x.Modes[k].Days = between(r, 1, days)
		}
	}
	return w
}

// The best ones of the plans that the serial rule makes of all orders in all modes: the best plans
// are among them, as no item of theirs could begin sooner.
func wantBestOfLists(t *testing.T, w api.Work) {
	t.Helper()
	var short, cheap better
	choices := [][]int{nil}
	for _, x := range w.Items {
		var more [][]int
		for _, c := range choices {
			for mode := range x.Modes {
				more = append(more, append(slices.Clone(c), mode))
			}
		}
		choices = more
	}
	for _, order := range secondOrders(names(w)) {
		if !isOrder(w, order) {
			continue
		}
		for _, modes := range choices {
			if s, e := schedule.Lists(w, order, modes); e == api.OK {
				short.see(s, secondDuration(w, s))
				cheap.see(s, secondCost(w, s))
			}
		}
	}
	wantBest(t, w, short, cheap)
}

func TestBestPlansOfAllOrders(t *testing.T) {
	r := rand.New(rand.NewSource(90))
	for range 60 {
		wantBestOfLists(t, right(t, longWork(r, 5, 15, 2)))
	}
	for range 4 {
		wantBestOfLists(t, right(t, longWork(r, 6, 12, 1)))
	}
}
