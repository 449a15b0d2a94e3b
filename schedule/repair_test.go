package schedule_test

import (
	"fmt"
	"math"
	"slices"
	"testing"

	"keelblock/api"
	"keelblock/schedule"
)

// P8.8

func wantRepair(t *testing.T, what string, w api.Work, s []api.Slot, now, changes int, wanted ...api.Slot) {
	t.Helper()
	l, n, e := schedule.Repair(w, s, now)
	want(t, what, []any{l, n, e}, []any{wanted, changes, api.OK})
}

func wantNoRepair(t *testing.T, what string, w api.Work, s []api.Slot, now int, wanted api.Errno) {
	t.Helper()
	l, n, e := schedule.Repair(w, s, now)
	wantError(t, what, wanted, e, l, n)
}

func TestRepair(t *testing.T) {
	a, b := slot("a", 0, 0), slot("b", 0, 0)
	wantRepair(t, "example 4", work(), []api.Slot{a, b}, 0, 1, a, slot("b", 0, 2))
	wantRepair(t, "example 4, in the other order", work(), []api.Slot{b, a}, 0, 1, a, slot("b", 0, 2))
	wantRepair(t, "a plan", work(), []api.Slot{slot("b", 0, 7), slot("a", 0, 4)}, 0, 0, slot("a", 0, 4), slot("b", 0, 7))
	wantRepair(t, "a plan before now", work(), []api.Slot{slot("b", 0, 7), slot("a", 0, 4)}, 400, 0, slot("a", 0, 4), slot("b", 0, 7))
	wantNoRepair(t, "both before now", work(), []api.Slot{a, b}, 1, api.ErrNone)
	wantNoRepair(t, "both long before now", work(), []api.Slot{a, b}, 400, api.ErrNone)
	wantRepair(t, "a before now", work(), []api.Slot{a, slot("b", 0, 1)}, 1, 1, a, slot("b", 0, 2))
	wantRepair(t, "a before now, and b not before 5", work(), []api.Slot{slot("a", 0, 4), slot("b", 0, 5)}, 5, 1, slot("a", 0, 4), slot("b", 0, 6))
	wantRepair(t, "b before now", work(), []api.Slot{slot("a", 0, 4), slot("b", 0, 4)}, 4, 1, slot("a", 0, 4), slot("b", 0, 6))
	wantRepair(t, "both at now: b may go before a", work(), []api.Slot{slot("a", 0, 5), slot("b", 0, 5)}, 4, 1, slot("a", 0, 5), slot("b", 0, 4))
	wantRepair(t, "behind Last", work(), []api.Slot{slot("a", 0, 3), slot("b", 0, 400)}, 0, 1, slot("a", 0, 3), slot("b", 0, 0))
	wantRepair(t, "over Last", work(), []api.Slot{slot("a", 0, 8), slot("b", 0, 1)}, 2, 1, slot("a", 0, 2), slot("b", 0, 1))
	wantNoRepair(t, "over Last and before now", work(), []api.Slot{slot("a", 0, 8), slot("b", 0, 1)}, 9, api.ErrNone)
	wantRepair(t, "on the last day", work(), []api.Slot{slot("a", 0, 6), slot("b", 0, 8)}, 9, 0, slot("a", 0, 6), slot("b", 0, 8))
	wantRepair(t, "to the last day", work(), []api.Slot{slot("a", 0, 5), slot("b", 0, 9)}, 8, 1, slot("a", 0, 5), slot("b", 0, 8))
	wantNoRepair(t, "behind the last day", work(), []api.Slot{slot("a", 0, 5), slot("b", 0, 9)}, 9, api.ErrNone)
	wantRepair(t, "nothing", api.Work{}, nil, 400, 0)
}

func TestRepairOfSeveralSlots(t *testing.T) {
	w := items(2, item("a", modes(2, 2)), item("b", modes(2, 2)), item("c", modes(1, 2)), item("d", modes(1, 1)))
	w.Last, w.Hire = 9, 1
	l := func(days ...int) []api.Slot {
		var out []api.Slot
		for i, day := range days {
			out = append(out, slot(w.Items[i].Name, 0, day))
		}
		return out
	}
	wantRepair(t, "one of three, to the cheapest day", w, l(0, 2, 1, 5), 0, 1, l(0, 2, 4, 5)...)
	wantRepair(t, "no other one, though it is cheaper", w, l(0, 2, 8, 8), 0, 1, l(0, 2, 4, 8)...)
	wantRepair(t, "two of four", w, l(3, 3, 3, 8), 0, 2, l(0, 3, 2, 8)...)
	wantRepair(t, "two of four, not before now", w, l(3, 3, 3, 8), 2, 2, l(3, 5, 2, 8)...)
	wantRepair(t, "three of four", w, l(3, 3, 3, 3), 3, 3, l(3, 5, 7, 8)...)
	wantNoRepair(t, "too late", w, l(4, 4, 4, 4), 4, api.ErrNone)
	wantRepair(t, "all of them", changed(w, func(w *api.Work) { w.Last = 6 }), l(9, 9, 9, 9), 0, 4, l(0, 2, 4, 5)...)
}

// Which slots are changed is open, and each choice has a first plan of its own.
func TestRepairOfOneOrAnother(t *testing.T) {
	w := items(1, item("c", modes(1, 0), "d"), item("b", modes(3, 1, 1, 0)), item("a", modes(1, 0, 3, 1)), item("d", modes(2, 1, 3, 0)))
	w.Last, w.Due, w.Late = 11, 4, 4
	s := []api.Slot{slot("d", 0, 10), slot("a", 1, 7), slot("c", 0, 2), slot("b", 0, 0)}
	wantRepair(t, "b and d, not c and d", w, s, 0, 2, slot("c", 0, 2), slot("b", 0, 2), slot("a", 1, 7), slot("d", 0, 0))
	w.Items[1].Modes = modes(3, 1)
	wantRepair(t, "b and d, in one mode", w, s, 0, 2, slot("c", 0, 2), slot("b", 0, 2), slot("a", 1, 7), slot("d", 0, 0))
	w.Items[3].Modes = modes(3, 1)
	s[0].Day, s[1].Day, s[1].Mode = 0, 5, 0
	wantRepair(t, "c and b, as d is right", w, s, 0, 2, slot("c", 0, 3), slot("b", 0, 3), slot("a", 0, 5), slot("d", 0, 0))
}

// A change of the mode alone is a change, too.
func TestRepairOfModes(t *testing.T) {
	w := items(3, item("a", modes(2, 2, 4, 1)), item("b", modes(2, 2, 3, 1)))
	w.Last = 20
	wantRepair(t, "the mode of a", w, []api.Slot{slot("a", 0, 1), slot("b", 0, 1)}, 1, 1, slot("a", 0, 1), slot("b", 0, 3))
	w.Last, w.Hire = 5, 1
	wantRepair(t, "the mode of b, which is the cheapest change", w, []api.Slot{slot("a", 0, 1), slot("b", 0, 1)}, 1, 1, slot("a", 0, 1), slot("b", 1, 1))
	w.Last, w.Trades[0].Rate = 9, 7
	wantRepair(t, "the cheaper mode", w, []api.Slot{slot("a", 0, 1), slot("b", 0, 1)}, 1, 1, slot("a", 0, 1), slot("b", 1, 1))
	w.Items[1].After = []string{"a"}
	wantRepair(t, "b behind a, or a before b", w, []api.Slot{slot("a", 1, 2), slot("b", 1, 3)}, 2, 1, slot("a", 1, 2), slot("b", 1, 6))
	wantRepair(t, "a before b", w, []api.Slot{slot("a", 1, 2), slot("b", 1, 3)}, 0, 1, slot("a", 0, 0), slot("b", 1, 3))
}

func TestErrorsOfRepair(t *testing.T) {
	wantBounds(t, "now", 0, 400, api.ErrRange, func(now int) api.Errno {
		_, _, e := schedule.Repair(work(), days(work(), 0, 2), now)
		return e
	})
	large := changed(work(), func(w *api.Work) { w.Last = 61 })
	wantNoRepair(t, "61 days", large, days(large, 0, 2), 0, api.ErrLarge)
	wantNoRepair(t, "now before 61 days", large, days(large, 0, 2), 401, api.ErrRange)
	wantNoRepair(t, "the slots before now", large, days(large, 0, 401), 401, api.ErrRange)
	wantNoRepair(t, "the shape before now", large, days(large, 0, 2)[:1], -1, api.ErrShape)
	large.Last = 60
	wantRepair(t, "60 days", large, days(large, 58, 57), 0, 0, days(large, 58, 57)...)
	nine := items(9, many(9, func(name string) api.Item { return item(name, modes(1, 1)) })...)
	wantNoRepair(t, "9 items", nine, days(nine, 0, 0, 0, 0, 0, 0, 0, 0, 0), 0, api.ErrLarge)
	wantNoRepair(t, "now before 9 items", nine, days(nine, 0, 0, 0, 0, 0, 0, 0, 0, 0), -1, api.ErrRange)
	nine.Items = nine.Items[:8]
	wantRepair(t, "8 items", nine, days(nine, 0, 0, 0, 0, 0, 0, 0, 99), 0, 1, days(nine, 0, 0, 0, 0, 0, 0, 0, 0)...)
	wantNoRepair(t, "61 days without items", api.Work{Last: 61}, nil, 0, api.ErrLarge)
	wantNoRepair(t, "now without items", api.Work{Last: 61}, nil, 401, api.ErrRange)
}

func TestGrow(t *testing.T) {
	for _, x := range []struct {
		item string
		days int
		y    []api.Mode // of the item y, whose modes take 1 and 3 days
		e    api.Errno
	}{
		{"y", 0, modes(1, 1, 3, 0), api.OK},
		{"y", 1, modes(2, 1, 4, 0), api.OK},
		{"y", 57, modes(58, 1, 60, 0), api.OK},
		{"y", 58, nil, api.ErrRange},
		{"y", -1, nil, api.ErrRange},
		{"z", -1, modes(1, 1, 3, 0), api.OK},
		{"z", -2, nil, api.ErrRange},
		{"z", 58, modes(1, 1, 3, 0), api.OK},
		{"z", 59, nil, api.ErrRange},
		{"x", 59, modes(1, 1, 3, 0), api.OK},
		{"x", 60, nil, api.ErrRange},
		{"x", 61, nil, api.ErrRange},
		{"x", -61, nil, api.ErrRange},
		{"x", math.MaxInt, nil, api.ErrRange},
		{"x", math.MinInt, nil, api.ErrRange},
		{"?", 1, nil, api.ErrMissing},
		{"", 61, nil, api.ErrMissing},
		{"tank", 1, nil, api.ErrMissing},
	} {
		what := fmt.Sprint(x.item, " grows by ", x.days)
		w, e := schedule.Grow(spaces(), x.item, x.days)
		if x.e != api.OK {
			wantError(t, what, x.e, e, w)
			continue
		}
		wanted := spaces()
		i := secondPlace(wanted, x.item)
		for k := range wanted.Items[i].Modes {
			wanted.Items[i].Modes[k].Days += x.days
		}
		want(t, what, []any{w, e}, []any{wanted, api.OK})
		want(t, what+": y", w.Items[1].Modes, x.y)
		right(t, w)
	}
	least := items(1, item("a", modes(60, 1)), item("b", modes(1, 1)))
	w, e := schedule.Grow(least, "a", -59)
	want(t, "a grows by -59", []any{w.Items[0].Modes, e}, []any{modes(1, 1), api.OK})
	w, e = schedule.Grow(least, "a", -60)
	wantError(t, "a grows by -60", api.ErrRange, e, w)
	both := items(1, item("a", modes(1, 0, 60, 0)))
	for _, days := range []int{1, -1} {
		w, e = schedule.Grow(both, "a", days)
		wantError(t, "a mode that can not grow", api.ErrRange, e, w)
	}
}

// The work that grows is the same otherwise, with all its lists.
func TestGrowKeepsAll(t *testing.T) {
	w := full()
	for i := range w.Items {
		w.Items[i].Modes[0].Days = 50
	}
	grown, e := schedule.Grow(w, "I7", 10)
	i := secondPlace(w, "I7")
	want(t, "the modes", []any{grown.Items[i].Modes, e}, []any{modes(60, 1000, 11, 0, 11, 1000), api.OK})
	back, e := schedule.Grow(grown, "I7", -10)
	want(t, "grown and shrunk", []any{back, e}, []any{w, api.OK})
	grown.Items[i].Modes = slices.Clone(w.Items[i].Modes)
	want(t, "all the rest", grown, w)
}
