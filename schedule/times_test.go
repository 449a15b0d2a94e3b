package schedule_test

import (
	"fmt"
	"math"
	"math/rand"
	"slices"
	"testing"

	"keelblock/api"
	"keelblock/schedule"
)

// P8.2

// chain is work of items that wait for each other, each of so many days.
func chain(items, days int) api.Work {
	w := api.Work{Trades: []api.Trade{{Name: "w", Crew: 1}}, Last: 400}
	for i := range items {
		x := item(fmt.Sprint("I", i), modes(60, 0, days, 1))
		if i > 0 {
			x.After = []string{fmt.Sprint("I", i-1)}
		}
		w.Items = append(w.Items, x)
	}
	return w
}

func wantTimes(t *testing.T, what string, w api.Work, days int, first, last []int, critical ...string) {
	t.Helper()
	l, n, e := schedule.Earliest(w)
	want(t, "Earliest of "+what, []any{l, n, e}, []any{first, days, api.OK})
	names, e := schedule.Critical(w)
	want(t, "Critical of "+what, []any{names, e}, []any{critical, api.OK})
	for more := 0; more < 3 && days+more <= 400; more++ {
		var wanted []int
		for _, day := range last {
			wanted = append(wanted, day+more)
		}
		l, e := schedule.Latest(w, days+more)
		want(t, fmt.Sprint("Latest of ", what, " and ", more), []any{l, e}, []any{wanted, api.OK})
	}
}

func TestTimes(t *testing.T) {
	wantTimes(t, "example 1", work(), 2, []int{0, 0}, []int{0, 1}, "a")
	wantTimes(t, "example 2", queue(), 3, []int{0, 2}, []int{0, 2}, "a", "b")
	wantTimes(t, "example 3", spaces(), 2, []int{0, 0, 0}, []int{1, 1, 0}, "z")
	wantTimes(t, "nothing", api.Work{}, 0, nil, nil)
	backward := work()
	backward.Items = []api.Item{item("a", modes(9, 1, 4, 2, 5, 0), "d", "b"), item("b", modes(3, 0)), item("c", modes(1, 1), "b"), item("d", modes(2, 2), "b", "b")}
	wantTimes(t, "items that come later", backward, 9, []int{5, 0, 3, 3}, []int{5, 0, 8, 3}, "a", "b", "d")
	two := work()
	two.Items = []api.Item{item("a", modes(2, 1)), item("b", modes(2, 1)), item("c", modes(3, 1), "a"), item("d", modes(3, 1), "b")}
	wantTimes(t, "two chains", two, 5, []int{0, 0, 2, 2}, []int{0, 0, 2, 2}, "a", "b", "c", "d")
}

// Neither the resources nor Last are looked at.
func TestTimesWithoutResources(t *testing.T) {
	w := changed(work(), func(w *api.Work) {
		w.Items = []api.Item{item("a", modes(2, 2)), item("b", modes(1, 2))}
		w.Items[0].Crane, w.Items[1].Crane = true, true
		w.Outages, w.Last = []api.Outage{{From: 0, To: 9}}, 0
	})
	wantTimes(t, "items at once", w, 2, []int{0, 0}, []int{0, 1}, "a")
}

func TestLatestOfDays(t *testing.T) {
	for _, x := range []struct {
		days int
		e    api.Errno
	}{
		{math.MinInt, api.ErrLimit}, {-1, api.ErrLimit}, {0, api.ErrLimit}, {2, api.ErrLimit}, {3, api.OK}, {400, api.OK}, {401, api.ErrLimit}, {math.MaxInt, api.ErrLimit},
	} {
		l, e := schedule.Latest(queue(), x.days)
		if x.e == api.OK {
			want(t, fmt.Sprint("Latest ", x.days), []any{l, e}, []any{[]int{x.days - 3, x.days - 1}, api.OK})
		} else {
			wantError(t, fmt.Sprint("Latest ", x.days), x.e, e, l)
		}
	}
	for days, wanted := range map[int]api.Errno{-1: api.ErrLimit, 0: api.OK, 400: api.OK, 401: api.ErrLimit} {
		l, e := schedule.Latest(api.Work{}, days)
		wantError(t, fmt.Sprint("nothing by ", days), wanted, e, l)
	}
}

// A chain may be longer than there are days.
func TestTimesBeyondAllDays(t *testing.T) {
	var first []int
	var all []string
	for i := range 40 {
		first, all = append(first, 60*i), append(all, fmt.Sprint("I", i))
	}
	wantTimes(t, "a long chain", chain(40, 60), 2400, first, nil, all...)
	for _, days := range []int{400, 2400} {
		l, e := schedule.Latest(chain(40, 60), days)
		wantError(t, "Latest of a long chain", api.ErrLimit, e, l)
	}
	for i := range first {
		first[i] = 10 * i
	}
	wantTimes(t, "a chain of 400 days", chain(40, 10), 400, first, first, all...)
}

// secondTimes are the least first days, in which no item begins before those of its After end.
func secondTimes(w api.Work) (first []int, days int) {
	least := func(x api.Item) int {
		return slices.MinFunc(x.Modes, func(a, b api.Mode) int { return a.Days - b.Days }).Days
	}
	var begin func(x api.Item) int
	begin = func(x api.Item) int {
		most := 0
		for _, name := range x.After {
			other := w.Items[secondPlace(w, name)]
			most = max(most, begin(other)+least(other))
		}
		return most
	}
	for _, x := range w.Items {
		first = append(first, begin(x))
		days = max(days, begin(x)+least(x))
	}
	return first, days
}

// Looked at backward in time, the latest first days are the earliest ends.
func TestTimesBySecondOpinion(t *testing.T) {
	r := rand.New(rand.NewSource(82))
	for range 5000 {
		w := right(t, randomWork(r, 7))
		first, days := secondTimes(w)
		back := changed(w, func(back *api.Work) {
			back.Items = slices.Clone(w.Items)
			for i := range back.Items {
				back.Items[i].After = nil
			}
			for _, x := range w.Items {
				for _, name := range x.After {
					k := secondPlace(w, name)
					back.Items[k].After = append(back.Items[k].After, x.Name)
				}
			}
		})
		ends, _ := secondTimes(back)
		var last []int
		var critical []string
		for i, x := range w.Items {
			least := slices.MinFunc(x.Modes, func(a, b api.Mode) int { return a.Days - b.Days }).Days
			last = append(last, days-ends[i]-least)
			if last[i] == first[i] {
				critical = append(critical, x.Name)
			}
		}
		wantTimes(t, fmt.Sprintf("%+v", w), w, days, first, last, critical...)
	}
}
