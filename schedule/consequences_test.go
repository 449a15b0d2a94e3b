package schedule_test

import (
	"fmt"
	"math/rand"
	"testing"

	"keelblock/api"
	"keelblock/schedule"
)

// P8.10

// isBounded demands that no bound is above a duration.
func isBounded(t *testing.T, w api.Work, days int) {
	t.Helper()
	b, _ := schedule.BestBound(w)
	if b.Days > days {
		t.Errorf("%+v: a plan of %d days, and the bound %+v", w, days, b)
	}
	for _, x := range w.Trades {
		if e := schedule.CheckBound(w, api.Bound{Days: days + 1, Trade: x.Name}); e != api.ErrProof {
			t.Errorf("%+v: a plan of %d days, and the trade %s", w, days, x.Name)
		}
	}
	for _, x := range w.Items {
		for _, other := range x.After {
			if e := schedule.CheckBound(w, api.Bound{Days: days + 1, Chain: []string{other, x.Name}}); e != api.ErrProof {
				t.Errorf("%+v: a plan of %d days, and the chain %s, %s", w, days, other, x.Name)
			}
		}
	}
}

func TestPlansAndBounds(t *testing.T) {
	r := rand.New(rand.NewSource(92))
	plans, tight := 0, 0
	for range 1500 {
		w := right(t, longWork(r, between(r, 1, 8), between(r, 1, 12), 3))
		short, e := schedule.Shortest(w)
		if e != api.OK {
			continue
		}
		plans++
		cheap, cost, e := schedule.Cheapest(w)
		want(t, "Cheapest beside Shortest", e, api.OK)
		least, e := schedule.Days(w, short)
		want(t, "the plan of Shortest", e, api.OK)
		price, e := schedule.Cost(w, cheap)
		want(t, "the plan of Cheapest and its cost", []any{price, e}, []any{cost, api.OK})
		isBounded(t, w, least)
		if b, _ := schedule.BestBound(w); b.Days == least {
			tight++
		}
		for range 5 {
			order, modes := randomOrder(r, w)
			s, e := schedule.Lists(w, order, modes)
			if e != api.OK {
				continue
			}
			want(t, "what Lists returns", schedule.CheckPlan(w, s), api.OK)
			days, _ := schedule.Days(w, s)
			price, _ := schedule.Cost(w, s)
			if days < least || price < cost {
				t.Errorf("%+v: %v takes %d days and costs %d, not %d and %d", w, s, days, price, least, cost)
			}
		}
	}
	if plans < 500 || tight < 100 || tight > plans-100 {
		t.Error(plans, tight)
	}
}

func TestGrownWork(t *testing.T) {
	r := rand.New(rand.NewSource(93))
	longer := 0
	for range 400 {
		w := right(t, longWork(r, between(r, 1, 6), 6, 3))
		short, e := schedule.Shortest(w)
		if e != api.OK {
			continue
		}
		least, _ := schedule.Days(w, short)
		for _, x := range w.Items {
			grown, e := schedule.Grow(w, x.Name, between(r, 1, 4))
			want(t, "Grow", e, api.OK)
			s, e := schedule.Shortest(right(t, grown))
			if e != api.OK {
				continue
			}
			days, _ := schedule.Days(grown, s)
			if days < least {
				t.Errorf("%+v: %d days, and with %s grown %d", w, least, x.Name, days)
			}
			if days > least {
				longer++
			}
		}
	}
	if longer < 100 {
		t.Error(longer)
	}
}

func TestExclusionsInPlans(t *testing.T) {
	r := rand.New(rand.NewSource(94))
	pairs := 0
	for range 2000 {
		w := right(t, longWork(r, between(r, 2, 6), 6, 2))
		s, _, e := schedule.Cheapest(w)
		if e != api.OK {
			continue
		}
		for i, a := range s {
			for _, b := range s[i+1:] {
				excludes, _ := schedule.Excludes(w, a.Item, b.Item)
				if excludes {
					pairs++
				}
				if excludes && secondMeet(w, a, b) {
					t.Errorf("%+v: %v and %v", w, a, b)
				}
			}
		}
	}
	if pairs < 200 {
		t.Error(pairs)
	}
}

// Repair finds a plan whenever there is one, no dearer than all that change as little.
func TestRepairedPlans(t *testing.T) {
	r := rand.New(rand.NewSource(95))
	count := map[string]int{}
	for range 300 {
		w := right(t, longWork(r, between(r, 1, 8), 8, 3))
		s := randomSlots(r, w)
		p, n, e := schedule.Repair(w, s, 0)
		_, none := schedule.Shortest(w)
		want(t, fmt.Sprintf("%+v: %v", w, s), e, none)
		if e != api.OK {
			continue
		}
		want(t, "the plan of Repair", schedule.CheckPlan(w, p), api.OK)
		changes := 0
		for _, x := range p {
			if old, _ := secondSlot(s, x.Item); x != old {
				changes++
			}
		}
		want(t, "the changes", n, changes)
		wantRepair(t, "the plan that was repaired", w, p, 0, 0, p...)
		cost, _ := schedule.Cost(w, p)
		if _, least, _ := schedule.Cheapest(w); cost < least {
			t.Errorf("%+v: %v costs %d, not %d", w, p, cost, least)
		}
		count[fmt.Sprint(n)]++
	}
	for _, n := range []string{"0", "1", "2", "3", "4"} {
		if count[n] < 5 {
			t.Error(count)
		}
	}
}
