package schedule_test

import (
	"fmt"
	"math/rand"
	"testing"

	"keelblock/api"
	"keelblock/schedule"
)

// P8.4: the numbers of plans.

func wantNumbers(t *testing.T, what string, w api.Work, s []api.Slot, days, cost int) {
	t.Helper()
	n, e := schedule.Days(w, s)
	want(t, "Days of "+what, []any{n, e}, []any{days, api.OK})
	n, e = schedule.Cost(w, s)
	want(t, "Cost of "+what, []any{n, e}, []any{cost, api.OK})
}

func wantLoad(t *testing.T, what string, w api.Work, s []api.Slot, trade string, wanted ...int) {
	t.Helper()
	l, e := schedule.Load(w, s, trade)
	want(t, "Load of "+what, []any{l, e}, []any{wanted, api.OK})
}

func TestDaysAndCost(t *testing.T) {
	wantNumbers(t, "example 1", work(), days(work(), 0, 2), 3, 430)
	wantNumbers(t, "example 1, b first", work(), days(work(), 1, 0), 3, 430)
	wantNumbers(t, "nothing", api.Work{Hire: 7, Late: 7}, nil, 0, 0)
	w := spaces() // Hire 3, Due 2, Late 20, a rate of 7
	wantNumbers(t, "two days late", w, days(w, 0, 1, 2), 4, 7+7+0+3*4+20*2)
	wantNumbers(t, "the other mode", w, []api.Slot{slot("z", 0, 2), slot("x", 0, 4), slot("y", 1, 0)}, 5, 7+3*5+20*3)
	w.Due = 4
	wantNumbers(t, "on the day", w, days(w, 0, 1, 2), 4, 7+7+3*4)
	w.Due = 5
	wantNumbers(t, "before the day", w, days(w, 0, 1, 2), 4, 7+7+3*4)
	w.Due = 3
	wantNumbers(t, "a day late", w, days(w, 0, 1, 2), 4, 7+7+3*4+20)
	big := full()
	big.Outages, big.Exclusions, big.Due = nil, nil, 0
	var s []api.Slot
	for i := range 40 {
		s = append(s, slot(fmt.Sprint("I", i), 2, i*10))
	}
	wantNumbers(t, "the fullest work", big, s, 391, 40*1000*1000000+391*2000000000)
}

// Neither the duration nor the cost of slots with a breach is told, but their load is.
func TestNumbersOfBreaches(t *testing.T) {
	for _, x := range []struct {
		what string
		w    api.Work
		s    []api.Slot
		e    api.Errno
		load []int
	}{
		{"an order", queue(), days(queue(), 1, 0), api.ErrOrder, []int{2, 1, 1}},
		{"a crew", work(), days(work(), 1, 2), api.ErrCapacity, []int{0, 1, 3}},
		{"a clash", spaces(), days(spaces(), 1, 1, 2), api.ErrClash, []int{0, 2, 0, 0}},
		{"an outage", spaces(), days(spaces(), 0, 1, 1), api.ErrState, []int{1, 1, 0}},
		{"the last day", work(), days(work(), 8, 0), api.ErrLimit, []int{2, 0, 0, 0, 0, 0, 0, 0, 1, 1}},
	} {
		n, e := schedule.Days(x.w, x.s)
		wantError(t, "Days of "+x.what, x.e, e, n)
		n, e = schedule.Cost(x.w, x.s)
		wantError(t, "Cost of "+x.what, x.e, e, n)
		asks, e := schedule.Asks(x.w, x.s)
		wantError(t, "Asks of "+x.what, x.e, e, asks)
		wantLoad(t, x.what, x.w, x.s, "w", x.load...)
	}
}

func TestLoad(t *testing.T) {
	w := changed(work(), func(w *api.Work) { w.Trades = append(w.Trades, api.Trade{Name: "v"}) })
	wantLoad(t, "example 1", w, days(w, 0, 2), "w", 1, 1, 2)
	wantLoad(t, "example 4", w, days(w, 0, 0), "w", 3, 1)
	wantLoad(t, "a gap", w, days(w, 4, 2), "w", 0, 0, 2, 0, 1, 1)
	wantLoad(t, "another trade", w, days(w, 0, 2), "v", 0, 0, 0)
	wantLoad(t, "the last days", w, days(w, 400, 0), "w", append(append([]int{2}, make([]int, 399)...), 1, 1)...)
	wantLoad(t, "nothing", api.Work{Trades: w.Trades}, nil, "w")
	for _, name := range []string{"", "W", "a"} {
		l, e := schedule.Load(w, days(w, 0, 0), name)
		wantError(t, fmt.Sprintf("the trade %q", name), api.ErrMissing, e, l)
	}
	l, e := schedule.Load(w, days(w, 0, 401), "?")
	wantError(t, "the slots before the trade", api.ErrRange, e, l)
	l, e = schedule.Load(api.Work{}, nil, "w")
	wantError(t, "no trades", api.ErrMissing, e, l)
}

func TestNumbersBySecondOpinion(t *testing.T) {
	r := rand.New(rand.NewSource(85))
	plans := 0
	for range 20000 {
		w := right(t, randomWork(r, 5))
		s := randomSlots(r, w)
		what := fmt.Sprintf("%+v: %+v", w, s)
		for _, x := range w.Trades {
			wantLoad(t, what, w, s, x.Name, secondLoad(w, s, x.Name)...)
		}
		if len(secondBreaches(w, s)) == 0 {
			plans++
			wantNumbers(t, what, w, s, secondDuration(w, s), secondCost(w, s))
		}
	}
	if plans < 1000 {
		t.Error(plans)
	}
}
