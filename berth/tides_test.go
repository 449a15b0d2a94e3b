package berth_test

import (
	"fmt"
	"math/rand"
	"testing"

	"keelblock/api"
	"keelblock/berth"
	"keelblock/water"
)

// flat is a sea that stays at a level for two days.
func flat(level int) []api.Mark {
	return []api.Mark{{Minute: 0, Level: level}, {Minute: 2879, Level: level}}
}

// deep is a ship that needs the sea at a level, at the sill of a dock at 0.
func deep(level int) api.Call {
	return changed(ship("A", 3, 2), func(c *api.Call) { c.Draught, c.Under = level-level/4, level/4 })
}

// high is a sea that is at 100 in each of some times, from first to last minutes, and below
// otherwise, until a minute.
func high(end int, times ...[2]int) []api.Mark {
	m := []api.Mark{{Minute: 0}}
	for _, x := range times {
		if x[0] == 0 {
			m = nil
		} else if last := m[len(m)-1]; last.Minute < x[0]-1 {
			m = append(m, api.Mark{Minute: x[0] - 1})
		}
		m = append(m, api.Mark{Minute: x[0], Level: 100})
		if x[1] > x[0] {
			m = append(m, api.Mark{Minute: x[1], Level: 100})
		}
		if x[1] < end {
			m = append(m, api.Mark{Minute: x[1] + 1})
		}
	}
	if m[len(m)-1].Minute < end {
		m = append(m, api.Mark{Minute: end})
	}
	return m
}

// P6.4

func TestPassagesOfTheExample(t *testing.T) {
	sea := []api.Mark{{Minute: 0, Level: 0}, {Minute: 1440, Level: 1440}}
	d, c := dock(), ship("A", 3, 2)
	d.Sill, c.Draught, c.Under = -1000, 1700, 300
	times, e := berth.Passages(d, c, sea)
	want(t, "the passages", []any{times, e}, []any{[][2]int{{1000, 1440}}, api.OK})
	days, e := berth.Days(d, c, sea)
	want(t, "the days", []any{days, e}, []any{[]int{0}, api.OK})
	// a ship that does not fit passes the sill nevertheless
	c.Length = 1000000
	times, e = berth.Passages(d, c, sea)
	want(t, "the passages of a long ship", []any{times, e}, []any{[][2]int{{1000, 1440}}, api.OK})
}

func TestPassages(t *testing.T) {
	for _, x := range []struct {
		what  string
		sea   []api.Mark
		level int
		times [][2]int
		days  []int
	}{
		{"never", flat(99), 100, nil, nil},
		{"always", flat(100), 100, [][2]int{{0, 2879}}, []int{0, 1}},
		{"one mark", []api.Mark{{Minute: 5, Level: 100}}, 100, [][2]int{{0, 5}}, nil},
		{"one mark, late", []api.Mark{{Minute: 29, Level: 100}}, 100, [][2]int{{0, 29}}, []int{0}},
		{"one mark, too early", []api.Mark{{Minute: 28, Level: 100}}, 100, [][2]int{{0, 28}}, nil},
		{"one mark, too low", []api.Mark{{Minute: 5, Level: 99}}, 100, nil, nil},
		{"before the first mark", []api.Mark{{Minute: 1500, Level: 100}, {Minute: 1501}, {Minute: 4000}}, 100, [][2]int{{0, 1500}}, []int{0, 1}},
		{"not behind the last mark", []api.Mark{{Minute: 0}, {Minute: 1450}, {Minute: 1451, Level: 100}}, 100, [][2]int{{1451, 1451}}, nil},
		{"the last mark of all", []api.Mark{{Minute: 999000}, {Minute: 1000000, Level: 1000}}, 999, [][2]int{{999999, 1000000}}, nil},
		{"the longest sea", []api.Mark{{Minute: 1000000, Level: 100}}, 100, [][2]int{{0, 1000000}}, days(0, 694)},
		{"29 minutes", high(1440, [2]int{100, 128}), 100, [][2]int{{100, 128}}, nil},
		{"30 minutes", high(1440, [2]int{100, 129}), 100, [][2]int{{100, 129}}, []int{0}},
		{"twice 29 minutes", high(1440, [2]int{100, 128}, [2]int{130, 158}), 100, [][2]int{{100, 128}, {130, 158}}, nil},
		{"twice 30 minutes", high(1440, [2]int{100, 129}, [2]int{131, 160}), 100, [][2]int{{100, 129}, {131, 160}}, []int{0}},
		{"29 minutes on both sides of midnight", high(4000, [2]int{1411, 1468}), 100, [][2]int{{1411, 1468}}, nil},
		{"30 minutes before midnight", high(4000, [2]int{1410, 1468}), 100, [][2]int{{1410, 1468}}, []int{0}},
		{"30 minutes behind midnight", high(4000, [2]int{1411, 1469}), 100, [][2]int{{1411, 1469}}, []int{1}},
		{"30 minutes on both sides of midnight", high(4000, [2]int{1410, 1469}), 100, [][2]int{{1410, 1469}}, []int{0, 1}},
		{"30 minutes at both ends of a day", high(4000, [2]int{1440, 1469}, [2]int{2850, 2879}), 100, [][2]int{{1440, 1469}, {2850, 2879}}, []int{1}},
		{"some days", high(9000, [2]int{700, 2000}, [2]int{4000, 7300}), 100, [][2]int{{700, 2000}, {4000, 7300}}, []int{0, 1, 2, 3, 4, 5}},
		{"a day left out", high(9000, [2]int{700, 2000}, [2]int{4400, 7228}), 100, [][2]int{{700, 2000}, {4400, 7228}}, []int{0, 1, 3, 4}},
		{"the last minutes", []api.Mark{{Minute: 0}, {Minute: 2880}, {Minute: 2881, Level: 100}, {Minute: 2910, Level: 100}}, 100, [][2]int{{2881, 2910}}, []int{2}},
		{"too few last minutes", []api.Mark{{Minute: 0}, {Minute: 2880}, {Minute: 2881, Level: 100}, {Minute: 2909, Level: 100}}, 100, [][2]int{{2881, 2909}}, nil},
	} {
		d := dock()
		times, e := berth.Passages(d, deep(x.level), x.sea)
		want(t, x.what, []any{times, e}, []any{x.times, api.OK})
		l, e := berth.Days(d, deep(x.level), x.sea)
		want(t, x.what, []any{l, e}, []any{x.days, api.OK})
		// the sill counts as the draught does
		d.Sill = x.level
		l, e = berth.Days(d, ship("A", 3, 2), x.sea)
		want(t, x.what, []any{l, e}, []any{x.days, api.OK})
	}
}

func days(first, last int) []int {
	var out []int
	for day := first; day <= last; day++ {
		out = append(out, day)
	}
	return out
}

// Some ships need more water than any sea has.
func TestPassagesOfTheDeepest(t *testing.T) {
	d, c := dock(), ship("A", 3, 2)
	for _, x := range []struct {
		sill, draught, under, sea int
		there                     bool
	}{
		{0, 0, 1000000, 1000000, true},
		{0, 1000000, 0, 1000000, true},
		{1000000, 0, 0, 1000000, true},
		{0, 999999, 1, 1000000, true},
		{0, 999999, 2, 1000000, false},
		{1, 1000000, 0, 1000000, false},
		{1000000, 1000000, 1000000, 1000000, false},
		{-1000000, 1000000, 1000000, 1000000, true},
		{-1000000, 1000000, 1000000, 999999, false},
		{-1000000, 0, 0, -1000000, true},
		{-999999, 0, 0, -1000000, false},
		{-1000000, 1, 0, -1000000, false},
	} {
		d.Sill, c.Draught, c.Under = x.sill, x.draught, x.under
		var times [][2]int
		var on []int
		if x.there {
			times, on = [][2]int{{0, 2879}}, []int{0, 1}
		}
		got, e := berth.Passages(d, c, flat(x.sea))
		want(t, fmt.Sprint(x), []any{got, e}, []any{times, api.OK})
		l, e := berth.Days(d, c, flat(x.sea))
		want(t, fmt.Sprint(x), []any{l, e}, []any{on, api.OK})
	}
}

// wrongSeas are seas that no function of this chapter takes.
func wrongSeas() map[string][]api.Mark {
	return map[string][]api.Mark{
		fmt.Sprint(int(api.ErrLarge)): make([]api.Mark, 401),
		fmt.Sprint(int(api.ErrRange)): {{Minute: 0}, {Minute: 1000001}},
		fmt.Sprint(int(api.ErrOrder)): {{Minute: 3}, {Minute: 3}},
		fmt.Sprint(int(api.ErrNone)):  nil,
	}
}

func TestErrorsOfSeas(t *testing.T) {
	bottomless := changed(ship("A", 3, 2), func(c *api.Call) { c.Draught, c.Under = 1000000, 1000000 })
	for code, sea := range wrongSeas() {
		for _, c := range []api.Call{deep(100), bottomless} {
			times, e := berth.Passages(dock(), c, sea)
			want(t, "the error", fmt.Sprint(int(e)), code)
			wantError(t, "Passages", e, e, times)
			l, e := berth.Days(dock(), c, sea)
			want(t, "the error", fmt.Sprint(int(e)), code)
			wantError(t, "Days", e, e, l)
		}
	}
}

// secondDays goes from minute to minute.
func secondDays(d api.Dock, c api.Call, sea []api.Mark) (times [][2]int, days []int) {
	run := 0
	for minute := range sea[len(sea)-1].Minute + 1 {
		if minute%1440 == 0 {
			run = 0
		}
		level, _ := water.Tide(sea, minute)
		if level < d.Sill+c.Draught+c.Under {
			run = 0
			continue
		}
		if n := len(times); n > 0 && times[n-1][1] == minute-1 {
			times[n-1][1] = minute
		} else {
			times = append(times, [2]int{minute, minute})
		}
		run++
		if n := len(days); run >= 30 && (n == 0 || days[n-1] != minute/1440) {
			days = append(days, minute/1440)
		}
	}
	return times, days
}

func TestDaysBySecondOpinion(t *testing.T) {
	r := rand.New(rand.NewSource(21))
	count := map[int]int{}
	for range 400 {
		d, c := dock(), ship("A", 3, 2)
		d.Sill, c.Draught, c.Under = between(r, -20, 20), r.Intn(40), r.Intn(30)
		minute := r.Intn(1000)
		var sea []api.Mark
		for range between(r, 1, 12) {
			sea = append(sea, api.Mark{Minute: minute, Level: between(r, 0, 60)})
			minute += between(r, 1, 200) * between(r, 1, 5)
		}
		wantedTimes, wantedDays := secondDays(d, c, sea)
		times, e := berth.Passages(d, c, sea)
		want(t, fmt.Sprint(d, c, sea), []any{times, e}, []any{wantedTimes, api.OK})
		l, e := berth.Days(d, c, sea)
		want(t, fmt.Sprint(d, c, sea), []any{l, e}, []any{wantedDays, api.OK})
		count[len(l)]++
		if len(times) > 2 {
			count[-1]++
		}
	}
	for _, n := range []int{-1, 0, 1, 2, 3} {
		if count[n] < 20 {
			t.Error(count)
		}
	}
}
