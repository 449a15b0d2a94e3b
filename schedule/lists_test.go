package schedule_test

import (
	"fmt"
	"math"
	"math/rand"
	"testing"

	"keelblock/api"
	"keelblock/schedule"
)

// P8.5

func wantLists(t *testing.T, what string, w api.Work, order []string, modes []int, wanted ...api.Slot) {
	t.Helper()
	s, e := schedule.Lists(w, order, modes)
	want(t, what, []any{s, e}, []any{wanted, api.OK})
}

func TestLists(t *testing.T) {
	wantLists(t, "a first", work(), []string{"a", "b"}, []int{0, 0}, slot("a", 0, 0), slot("b", 0, 2))
	wantLists(t, "b first", work(), []string{"b", "a"}, []int{0, 0}, slot("a", 0, 1), slot("b", 0, 0))
	wantLists(t, "b after a", queue(), []string{"a", "b"}, []int{0, 0}, slot("a", 0, 0), slot("b", 0, 2))
	wantLists(t, "an exclusion, and an outage", spaces(), []string{"x", "y", "z"}, []int{0, 0, 0}, slot("x", 0, 0), slot("y", 0, 1), slot("z", 0, 2))
	wantLists(t, "the other mode", spaces(), []string{"z", "y", "x"}, []int{0, 1, 0}, slot("x", 0, 3), slot("y", 1, 0), slot("z", 0, 2))
	wantLists(t, "nothing", api.Work{}, nil, nil)

	w := work()
	w.Trades = append(w.Trades, api.Trade{Name: "v", Crew: 2})
	w.Items = []api.Item{item("a", modes(4, 1)), item("b", modes(1, 2)), item("c", modes(2, 1)), item("d", modes(1, 2)), item("e", modes(3, 1), "c")}
	w.Items[3].Trade = "v"
	wantLists(t, "back into a gap", w, []string{"a", "b", "c", "d", "e"}, []int{0, 0, 0, 0, 0},
		slot("a", 0, 0), slot("b", 0, 4), slot("c", 0, 0), slot("d", 0, 0), slot("e", 0, 5))
	wantLists(t, "into a gap that is just long enough", w, []string{"c", "e", "b", "a", "d"}, []int{0, 0, 0, 0, 0},
		slot("a", 0, 0), slot("b", 0, 5), slot("c", 0, 0), slot("d", 0, 0), slot("e", 0, 2))
	two := changed(spaces(), func(w *api.Work) { w.Items[0].Crane = true })
	wantLists(t, "one crane", two, []string{"z", "x", "y"}, []int{0, 0, 0}, slot("x", 0, 0), slot("y", 0, 1), slot("z", 0, 2))
}

func TestErrorsOfLists(t *testing.T) {
	w := changed(spaces(), func(w *api.Work) { w.Items[2].After = []string{"y", "y"} })
	all, zero := []string{"x", "y", "z"}, []int{0, 0, 0}
	for _, x := range []struct {
		what  string
		order []string
		modes []int
		e     api.Errno
	}{
		{"right", all, zero, api.OK},
		{"right, in another order", []string{"y", "z", "x"}, []int{0, 1, 0}, api.OK},
		{"a short order", all[:2], zero, api.ErrShape},
		{"a long order", append(all, "x"), zero, api.ErrShape},
		{"few modes", all, zero[:2], api.ErrShape},
		{"many modes", all, make([]int, 4), api.ErrShape},
		{"nothing", nil, nil, api.ErrShape},
		{"the shape of the modes before the order", []string{"?", "y", "z"}, nil, api.ErrShape},
		{"no such item", []string{"x", "y", "Z"}, zero, api.ErrMissing},
		{"an item twice", []string{"x", "y", "x"}, zero, api.ErrExists},
		{"an item twice before its After", []string{"y", "z", "z"}, zero, api.ErrExists},
		{"an item before its After", []string{"x", "z", "y"}, zero, api.ErrOrder},
		{"an item before its After, and the next one", []string{"z", "z", "?"}, zero, api.ErrOrder},
		{"no such item before the modes", []string{"x", "y", "?"}, []int{9, 9, 9}, api.ErrMissing},
		{"the order before the modes", []string{"z", "x", "y"}, []int{9, 9, 9}, api.ErrOrder},
		{"a mode below", all, []int{0, -1, 0}, api.ErrRange},
		{"a mode above", all, []int{0, 2, 0}, api.ErrRange},
		{"the mode of another item", []string{"y", "x", "z"}, []int{1, 0, 0}, api.ErrRange},
		{"a mode far above", all, []int{0, 0, math.MaxInt}, api.ErrRange},
		{"a mode far below", all, []int{0, 0, math.MinInt}, api.ErrRange},
	} {
		s, e := schedule.Lists(w, x.order, x.modes)
		want(t, x.what, e, x.e)
		if x.e != api.OK {
			wantError(t, x.what, x.e, e, s)
		}
	}
	s, e := schedule.Lists(api.Work{}, []string{"x"}, nil)
	wantError(t, "no items", api.ErrShape, e, s)
}

func TestListsUpToTheLastDay(t *testing.T) {
	w := changed(work(), func(w *api.Work) { w.Last = 3 })
	wantLists(t, "as many days as are needed", w, []string{"a", "b"}, []int{0, 0}, slot("a", 0, 0), slot("b", 0, 2))
	w.Last = 2
	s, e := schedule.Lists(w, []string{"a", "b"}, []int{0, 0})
	wantError(t, "a day too few", api.ErrNone, e, s)
	w.Last = 0
	s, e = schedule.Lists(w, []string{"a", "b"}, []int{0, 0})
	wantError(t, "no day", api.ErrNone, e, s)
	s, e = schedule.Lists(w, []string{"a", "b"}, []int{0, 1})
	wantError(t, "a mode before the days", api.ErrRange, e, s)
	wantLists(t, "no items and no day", api.Work{}, nil, nil)

	long := chain(40, 10)
	var order []string
	var first []int
	var wanted []api.Slot
	for i, name := range names(long) {
		order, first, wanted = append(order, name), append(first, 1), append(wanted, slot(name, 1, 10*i))
	}
	wantLists(t, "400 days", long, order, first, wanted...)
	long.Last = 399
	s, e = schedule.Lists(long, order, first)
	wantError(t, "400 days in 399", api.ErrNone, e, s)
	out := changed(spaces(), func(w *api.Work) { w.Outages, w.Last = []api.Outage{{From: 0, To: 398}}, 400 })
	wantLists(t, "behind a long outage", out, []string{"z", "x", "y"}, []int{0, 0, 0}, slot("x", 0, 0), slot("y", 0, 1), slot("z", 0, 398))
	out.Outages[0].To = 399
	s, e = schedule.Lists(out, []string{"z", "x", "y"}, []int{0, 0, 0})
	wantError(t, "behind a longer outage", api.ErrNone, e, s)
}

// secondLists takes the items one by one, each on the first day that adds no breach.
func secondLists(w api.Work, order []string, modes []int) ([]api.Slot, bool) {
	var taken []api.Slot
	for _, name := range order {
		i, day := secondPlace(w, name), 0
		for ; day < w.Last; day++ {
			if len(secondBreaches(w, append(taken, slot(name, modes[i], day)))) == 0 {
				break
			}
		}
		if day == w.Last {
			return nil, false
		}
		taken = append(taken, slot(name, modes[i], day))
	}
	var out []api.Slot
	for _, name := range names(w) {
		s, _ := secondSlot(taken, name)
		out = append(out, s)
	}
	return out, true
}

func TestListsBySecondOpinion(t *testing.T) {
	r := rand.New(rand.NewSource(86))
	count := map[api.Errno]int{}
	for range 6000 {
		w := right(t, randomWork(r, 7))
		w.Last += r.Intn(9)
		order, modes := randomOrder(r, w)
		wanted, found := secondLists(w, order, modes)
		s, e := schedule.Lists(w, order, modes)
		what := fmt.Sprintf("%+v: %v %v", w, order, modes)
		if found {
			want(t, what, []any{s, e}, []any{wanted, api.OK})
			want(t, "the plan of "+what, schedule.CheckPlan(w, s), api.OK)
		} else {
			wantError(t, what, api.ErrNone, e, s)
		}
		count[e]++
	}
	if count[api.OK] < 1000 || count[api.ErrNone] < 500 {
		t.Error(count)
	}
}
