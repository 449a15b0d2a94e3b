package schedule_test

import (
	"fmt"
	"math"
	"math/rand"
	"slices"
	"testing"

	"keelblock/api"
	"keelblock/schedule"
)

// P8.3

func TestExcludes(t *testing.T) {
	for _, x := range []struct {
		a, b   string
		wanted bool
		e      api.Errno
	}{
		{"x", "y", true, api.OK}, {"y", "x", true, api.OK}, {"x", "z", false, api.OK}, {"x", "x", false, api.OK}, {"y", "y", false, api.OK},
		{"?", "y", false, api.ErrMissing}, {"x", "", false, api.ErrMissing}, {"x", "X", false, api.ErrMissing}, {"tank", "tank", false, api.ErrMissing}, {"?", "?", false, api.ErrMissing},
	} {
		excludes, e := schedule.Excludes(spaces(), x.a, x.b)
		want(t, x.a+" and "+x.b, []any{excludes, e}, []any{x.wanted, x.e})
	}
}

func TestReachOfExclusions(t *testing.T) {
	for _, x := range []struct {
		what  string
		reach int // the least one with which they exclude each other
		do    func(w *api.Work)
	}{
		{"neighbours", 1, func(w *api.Work) {}},
		{"the other one lists it", 1, func(w *api.Work) { w.Spaces[0].Next, w.Spaces[1].Next = nil, []string{"deck", "tank"} }},
		{"both list each other", 1, func(w *api.Work) { w.Spaces[1].Next = []string{"tank", "tank"} }},
		{"no neighbours", 2, func(w *api.Work) { w.Spaces[0].Next = []string{"deck", "tank"} }},
		{"one space", 0, func(w *api.Work) { w.Items[1].Space = "tank" }},
		{"one space without neighbours", 0, func(w *api.Work) { w.Items[0].Space, w.Items[1].Space = "deck", "deck" }},
		{"neighbours of a neighbour", 2, func(w *api.Work) { w.Spaces[1].Next, w.Items[1].Space = []string{"deck"}, "deck" }},
		{"other kinds", 3, func(w *api.Work) { w.Items[1].Kind = api.Entry }},
		{"two of one kind", 3, func(w *api.Work) { w.Items[1].Kind = api.HotWork }},
		{"two of the other kind", 3, func(w *api.Work) { w.Items[0].Kind = api.Spraying }},
		{"the kinds the other way round", 1, func(w *api.Work) { w.Items[0].Kind, w.Items[1].Kind = api.Spraying, api.HotWork }},
		{"one without a kind", 3, func(w *api.Work) { w.Items[0].Kind = -1 }},
		{"both without a kind", 3, func(w *api.Work) { w.Items[0].Kind, w.Items[1].Kind = -1, -1 }},
	} {
		for reach := range 3 {
			w := changed(spaces(), func(w *api.Work) { x.do(w); w.Exclusions[0].Reach = reach })
			excludes, e := schedule.Excludes(w, "x", "y")
			want(t, fmt.Sprint(x.what, " with reach ", reach), []any{excludes, e}, []any{reach >= x.reach, api.OK})
			excludes, e = schedule.Excludes(w, "y", "x")
			want(t, fmt.Sprint(x.what, " turned round, with reach ", reach), []any{excludes, e}, []any{reach >= x.reach, api.OK})
		}
	}
	same := changed(spaces(), func(w *api.Work) {
		w.Items[1].Kind, w.Items[1].Space = api.HotWork, "tank"
		w.Exclusions = []api.Exclusion{{A: 5, B: 5, Reach: 2}, {A: 0, B: 0, Reach: 0}}
	})
	excludes, e := schedule.Excludes(same, "x", "y")
	want(t, "a kind that excludes itself, by the second exclusion", []any{excludes, e}, []any{true, api.OK})
	excludes, e = schedule.Excludes(same, "x", "x")
	want(t, "an item and itself", []any{excludes, e}, []any{false, api.OK})
	none := changed(spaces(), func(w *api.Work) { w.Exclusions = nil })
	excludes, e = schedule.Excludes(none, "x", "y")
	want(t, "without exclusions", []any{excludes, e}, []any{false, api.OK})
}

// P8.4

func wantBreaches(t *testing.T, what string, w api.Work, s []api.Slot, wanted ...api.Breach) {
	t.Helper()
	l, e := schedule.Breaches(w, s)
	want(t, what, []any{l, e}, []any{wanted, api.OK})
	first := api.OK
	if len(wanted) > 0 {
		first = wanted[0].Reason
	}
	want(t, "CheckPlan: "+what, schedule.CheckPlan(w, s), first)
}

func TestBreachesOfExamples(t *testing.T) {
	wantBreaches(t, "example 1", work(), days(work(), 0, 2))
	wantBreaches(t, "example 1, b first", work(), days(work(), 1, 0))
	wantBreaches(t, "example 4", work(), days(work(), 0, 0), api.Breach{A: "w", Reason: api.ErrCapacity})
	wantBreaches(t, "example 4, on the second day", work(), days(work(), 0, 1), api.Breach{A: "w", Reason: api.ErrCapacity})
	wantBreaches(t, "example 3", spaces(), days(spaces(), 0, 0, 2), api.Breach{A: "x", B: "y", Reason: api.ErrClash})
	wantBreaches(t, "example 3 on other days", spaces(), days(spaces(), 0, 1, 2))
	wantBreaches(t, "nothing", api.Work{}, nil)
}

func TestBreachesOfOneKind(t *testing.T) {
	for _, x := range []struct {
		what   string
		w      api.Work
		s      []api.Slot
		wanted []api.Breach
	}{
		{"b when a ends", queue(), days(queue(), 0, 2), nil},
		{"b long after a", queue(), days(queue(), 0, 7), nil},
		{"b before a ends", changed(queue(), func(w *api.Work) { w.Trades[0].Crew = 9 }), days(queue(), 0, 1), []api.Breach{{A: "a", B: "b", Reason: api.ErrOrder}}},
		{"b before a", queue(), days(queue(), 3, 1), []api.Breach{{A: "a", B: "b", Reason: api.ErrOrder}}},
		{"twice in After", changed(queue(), func(w *api.Work) { w.Items[1].After = []string{"a", "a"} }), days(queue(), 3, 1), []api.Breach{{A: "a", B: "b", Reason: api.ErrOrder}, {A: "a", B: "b", Reason: api.ErrOrder}}},
		{"before the last day", work(), days(work(), 0, 8), nil},
		{"on the last day", work(), days(work(), 0, 9), []api.Breach{{A: "b", Reason: api.ErrLimit}}},
		{"over the last day", work(), days(work(), 8, 400), []api.Breach{{A: "a", Reason: api.ErrLimit}, {A: "b", Reason: api.ErrLimit}}},
		{"up to the last day", work(), days(work(), 7, 0), nil},
		{"the crane before an outage", spaces(), days(spaces(), 2, 3, 0), []api.Breach{{A: "z", Reason: api.ErrState}}},
		{"the crane in an outage", spaces(), days(spaces(), 2, 3, 1), []api.Breach{{A: "z", Reason: api.ErrState}}},
		{"the crane behind an outage", spaces(), days(spaces(), 2, 3, 2), nil},
		{"no crane in an outage", spaces(), days(spaces(), 1, 2, 2), nil},
		{"the second outage", changed(spaces(), func(w *api.Work) { w.Outages = append(w.Outages, api.Outage{From: 5, To: 6}) }), days(spaces(), 1, 2, 4), []api.Breach{{A: "z", Reason: api.ErrState}}},
		{"two with the crane", changed(spaces(), func(w *api.Work) { w.Items[0].Crane = true }), days(spaces(), 3, 2, 2), []api.Breach{{A: "x", B: "z", Reason: api.ErrClash}}},
		{"two with the crane, one after the other", changed(spaces(), func(w *api.Work) { w.Items[0].Crane = true }), days(spaces(), 4, 2, 2), nil},
		{"two that exclude each other and need the crane", changed(spaces(), func(w *api.Work) { w.Items[0].Crane, w.Items[1].Crane = true, true }), days(spaces(), 2, 2, 3), []api.Breach{{A: "x", B: "y", Reason: api.ErrClash}}},
		{"full in the middle of an item", spaces(), []api.Slot{slot("x", 0, 3), slot("y", 1, 2), slot("z", 0, 2)}, []api.Breach{{A: "x", B: "y", Reason: api.ErrClash}}},
	} {
		wantBreaches(t, x.what, right(t, x.w), x.s, x.wanted...)
	}
}

// All kinds of breaches at once: the trades and pairs are in the order of the work, not of the slots.
func TestAllBreaches(t *testing.T) {
	w := api.Work{
		Trades:     []api.Trade{{Name: "w", Crew: 2}, {Name: "full", Crew: 1}, {Name: "idle", Crew: 0}, {Name: "v", Crew: 3}},
		Spaces:     []api.Space{{Name: "s"}},
		Exclusions: []api.Exclusion{{A: 0, B: 0, Reach: 0}},
		Outages:    []api.Outage{{From: 0, To: 2}, {From: 1, To: 3}},
		Last:       3,
	}
	add := func(name, trade string, days, crew, kind int, crane bool, after ...string) {
		w.Items = append(w.Items, api.Item{Name: name, Trade: trade, Modes: modes(9, 0, days, crew), Space: "s", Kind: kind, Crane: crane, After: after})
	}
	add("d", "v", 2, 2, -1, true, "b", "a")
	add("c", "w", 3, 2, 0, false)
	add("b", "w", 1, 1, 0, true, "a", "c", "a")
	add("a", "v", 5, 2, 0, false)
	add("e", "full", 1, 1, -1, false, "d")
	right(t, w)
	s := []api.Slot{slot("e", 1, 4), slot("c", 1, 0), slot("a", 1, 1), slot("b", 1, 2), slot("d", 1, 2)}
	wanted := []api.Breach{
		{A: "b", B: "d", Reason: api.ErrOrder}, {A: "a", B: "d", Reason: api.ErrOrder},
		{A: "a", B: "b", Reason: api.ErrOrder}, {A: "c", B: "b", Reason: api.ErrOrder}, {A: "a", B: "b", Reason: api.ErrOrder},
		{A: "w", Reason: api.ErrCapacity}, {A: "v", Reason: api.ErrCapacity},
		{A: "d", B: "b", Reason: api.ErrClash}, {A: "c", B: "b", Reason: api.ErrClash}, {A: "c", B: "a", Reason: api.ErrClash}, {A: "b", B: "a", Reason: api.ErrClash},
		{A: "d", Reason: api.ErrState}, {A: "b", Reason: api.ErrState},
		{A: "d", Reason: api.ErrLimit}, {A: "a", Reason: api.ErrLimit}, {A: "e", Reason: api.ErrLimit},
	}
	wantBreaches(t, "all kinds", w, s, wanted...)
	want(t, "a second opinion", secondBreaches(w, s), wanted)
	slices.Reverse(s)
	wantBreaches(t, "all kinds, turned round", w, s, wanted...)
}

func TestBreachesBySecondOpinion(t *testing.T) {
	r := rand.New(rand.NewSource(84))
	count := map[api.Errno]int{}
	for range 20000 {
		w := right(t, randomWork(r, 5))
		s := randomSlots(r, w)
		wanted := secondBreaches(w, s)
		wantBreaches(t, fmt.Sprintf("%+v: %+v", w, s), w, s, wanted...)
		count[schedule.CheckPlan(w, s)]++
		for i, x := range w.Items {
			for _, y := range w.Items[i:] {
				excludes, e := schedule.Excludes(w, x.Name, y.Name)
				want(t, x.Name+" and "+y.Name, []any{excludes, e}, []any{secondExcludes(w, x, y), api.OK})
			}
		}
		if t.Failed() {
			t.FailNow()
		}
	}
	for _, e := range []api.Errno{api.OK, api.ErrOrder, api.ErrCapacity, api.ErrClash, api.ErrState, api.ErrLimit} {
		if count[e] < 500 {
			t.Error(count)
		}
	}
}

// The errors of slots.
func TestErrorsOfSlots(t *testing.T) {
	w := changed(spaces(), func(w *api.Work) { w.Last = 400 })
	a, b, c := slot("x", 0, 2), slot("y", 1, 3), slot("z", 0, 4)
	for _, x := range []struct {
		what string
		s    []api.Slot
		e    api.Errno
	}{
		{"no slots", nil, api.ErrShape},
		{"few slots", []api.Slot{a, b}, api.ErrShape},
		{"many slots", []api.Slot{a, b, c, a}, api.ErrShape},
		{"the shape before an item", []api.Slot{slot("?", -1, -1)}, api.ErrShape},
		{"no such item", []api.Slot{a, b, slot("Z", 0, 4)}, api.ErrMissing},
		{"no such item before its mode", []api.Slot{slot("", -1, -1), b, c}, api.ErrMissing},
		{"an item twice", []api.Slot{a, b, a}, api.ErrExists},
		{"an item twice before its mode", []api.Slot{a, slot("x", 7, 7), slot("?", 0, 0)}, api.ErrExists},
		{"the mode below", []api.Slot{a, slot("y", -1, 3), c}, api.ErrRange},
		{"the mode least", []api.Slot{a, slot("y", 0, 3), c}, api.OK},
		{"the mode greatest", []api.Slot{a, slot("y", 1, 3), c}, api.OK},
		{"the mode above", []api.Slot{a, slot("y", 2, 3), c}, api.ErrRange},
		{"the mode far above", []api.Slot{a, slot("y", math.MaxInt, 3), c}, api.ErrRange},
		{"the mode far below", []api.Slot{a, slot("y", math.MinInt, 3), c}, api.ErrRange},
		{"the mode of another item", []api.Slot{slot("x", 1, 2), b, c}, api.ErrRange},
		{"the day below", []api.Slot{a, slot("y", 0, -1), c}, api.ErrRange},
		{"the day least", []api.Slot{a, slot("y", 0, 0), c}, api.OK},
		{"the day greatest", []api.Slot{a, slot("y", 0, 400), c}, api.ErrLimit},
		{"the day above", []api.Slot{a, slot("y", 0, 401), c}, api.ErrRange},
		{"the day far above", []api.Slot{a, slot("y", 0, math.MaxInt), c}, api.ErrRange},
		{"a mode before the next item", []api.Slot{slot("x", 1, 2), slot("x", 0, 2), c}, api.ErrRange},
		{"the first slot that is wrong", []api.Slot{slot("?", 0, 2), slot("y", 2, 3), c}, api.ErrMissing},
	} {
		want(t, "CheckPlan with "+x.what, schedule.CheckPlan(w, x.s), x.e)
		if x.e == api.OK || x.e == api.ErrLimit {
			continue
		}
		l, e := schedule.Breaches(w, x.s)
		wantError(t, "Breaches with "+x.what, x.e, e, l)
		n, e := schedule.Days(w, x.s)
		wantError(t, "Days with "+x.what, x.e, e, n)
		n, e = schedule.Cost(w, x.s)
		wantError(t, "Cost with "+x.what, x.e, e, n)
		load, e := schedule.Load(w, x.s, "?")
		wantError(t, "Load with "+x.what, x.e, e, load)
		asks, e := schedule.Asks(w, x.s)
		wantError(t, "Asks with "+x.what, x.e, e, asks)
		text, e := schedule.PrintPlan(w, x.s)
		wantError(t, "PrintPlan with "+x.what, x.e, e, text)
		s, n, e := schedule.Repair(w, x.s, 401)
		wantError(t, "Repair with "+x.what, x.e, e, s, n)
	}
	want(t, "slots of no items", schedule.CheckPlan(api.Work{}, []api.Slot{a}), api.ErrShape)
}
