package water_test

import (
	"math"
	"math/rand"
	"slices"
	"testing"

	"keelblock/api"
	"keelblock/water"
)

// P5.5

func TestStep(t *testing.T) {
	w, flows, e := water.Step(pair(), of(pair(), holding(100000, 0)))
	want(t, "example 3", []any{w, flows, e}, []any{api.Water{Minute: 1, Litres: levels(50000, 50000), Open: []bool{true}}, levels(50000), api.OK})
	w, flows, e = water.Step(yard(), yardWater())
	// the flood gate is open to a low sea, and the pump has what is left: both take water from the dock
	want(t, "the yard", []any{w, flows, e}, []any{
		api.Water{Minute: 6, Litres: levels(34000, 60000), Open: []bool{true, false, true, false}}, levels(-2000, 0, 4000, 0), api.OK,
	})
	w, flows, e = water.Step(api.Network{}, api.Water{Minute: 999999})
	want(t, "no network", []any{w, flows, e}, []any{api.Water{Minute: 1000000}, levels(), api.OK})
	last := yardWater()
	last.Minute = 1000000
	w, flows, e = water.Step(yard(), last)
	wantError(t, "the last minute", api.ErrRange, e, w, flows)
}

// Links act one after another: what the first one leaves is what the second one finds.
func TestLinksActInTheirOrder(t *testing.T) {
	first := pump("A", "B", 700, 2000)
	second := pump("A", "B", 500, 2000)
	second.Name = "Other"
	back := gate("B", "A", 0, 1000, 1000)
	back.Name = "Back"
	for _, x := range []struct {
		links         []api.Link
		litres        []int
		flows, wanted []int
	}{
		{[]api.Link{first, second}, levels(1000, 0), levels(700, 300), levels(0, 1000)},
		{[]api.Link{second, first}, levels(1000, 0), levels(500, 500), levels(0, 1000)},
		{[]api.Link{first, back}, levels(1000, 0), levels(700, 200), levels(500, 500)},
		{[]api.Link{back, first}, levels(1000, 0), levels(-500, 500), levels(0, 1000)},
	} {
		n := pair()
		n.Links = x.links
		w, flows, e := water.Step(n, of(n, holding(x.litres...)))
		want(t, "the step", []any{w.Litres, flows, e}, []any{x.wanted, x.flows, api.OK})
	}
}

// secondRun goes on minute by minute with the second opinion of a flow.
func secondRun(n api.Network, w api.Water, turns []api.Turn, minutes int) (api.Water, []int) {
	w.Litres, w.Open = slices.Clone(w.Litres), slices.Clone(w.Open)
	var flows []int
	for range minutes {
		for _, x := range turns {
			for i, l := range n.Links {
				if x.Minute == w.Minute && x.Link == l.Name {
					w.Open[i] = x.Open
				}
			}
		}
		flows = nil
		for i, l := range n.Links {
			q := secondFlow(n, w, i)
			flows = append(flows, q)
			for k, b := range n.Basins {
				switch b.Name {
				case l.From:
					w.Litres[k] -= q
				case l.To:
					w.Litres[k] += q
				}
			}
		}
		w.Minute++
	}
	return w, flows
}

func randomTurns(r *rand.Rand, n api.Network) []api.Turn {
	var l []api.Turn
	minute := r.Intn(10)
	for range r.Intn(12) {
		l = append(l, api.Turn{Minute: minute, Link: n.Links[r.Intn(len(n.Links))].Name, Open: r.Intn(2) == 0})
		minute += r.Intn(6)
	}
	return l
}

func TestRunsBySecondOpinion(t *testing.T) {
	r := rand.New(rand.NewSource(56))
	turned := 0
	for range 600 {
		n := randomNetwork(r)
		w, turns, minutes := randomWater(r, n), randomTurns(r, n), r.Intn(30)
		wanted, _ := secondRun(n, w, turns, minutes)
		got, e := water.Run(n, w, turns, minutes)
		want(t, "Run", []any{got, e}, []any{wanted, api.OK})
		if !slices.Equal(wanted.Open, w.Open) {
			turned++
		}
		wanted, flows := secondRun(n, w, nil, 1)
		got, did, e := water.Step(n, w)
		want(t, "Step", []any{got, did, e}, []any{wanted, flows, api.OK})
	}
	if turned < 150 {
		t.Errorf("only %d runs have turns", turned)
	}
}

func TestTurns(t *testing.T) {
	open := func(minute int) api.Turn { return api.Turn{Minute: minute, Link: "Gate", Open: true} }
	shut := func(minute int) api.Turn { return api.Turn{Minute: minute, Link: "Gate"} }
	n := pair()
	n.Links[0].Rate = 10
	start := api.Water{Minute: 100, Litres: levels(100000, 0), Open: []bool{false}}
	for _, x := range []struct {
		what    string
		turns   []api.Turn
		minutes int
		litres  int // in B
		open    bool
	}{
		{"none", nil, 5, 0, false},
		{"before the run", []api.Turn{open(99)}, 5, 0, false},
		{"in the first minute", []api.Turn{open(100)}, 5, 50, true},
		{"in the last minute that begins", []api.Turn{open(104)}, 5, 10, true},
		{"in the minute that does not begin", []api.Turn{open(105)}, 5, 0, false},
		{"in no minutes", []api.Turn{open(100)}, 0, 0, false},
		{"open and shut", []api.Turn{open(101), shut(103)}, 5, 20, false},
		{"open and shut in a minute", []api.Turn{open(101), shut(101)}, 5, 0, false},
		{"shut and open in a minute", []api.Turn{shut(101), open(101)}, 5, 40, true},
		{"before and in the run", []api.Turn{open(0), open(99), open(103), open(103), shut(1000)}, 5, 20, true},
	} {
		w, e := water.Run(n, start, x.turns, x.minutes)
		wanted := api.Water{Minute: 100 + x.minutes, Litres: levels(100000-x.litres, x.litres), Open: []bool{x.open}}
		want(t, x.what, []any{w, e}, []any{wanted, api.OK})
	}
}

func TestRunErrors(t *testing.T) {
	at := func(minute int) api.Water {
		return api.Water{Minute: minute, Litres: levels(5, 0), Open: []bool{false}}
	}
	for _, x := range []struct {
		what            string
		minute, minutes int
		e               api.Errno
	}{
		{"less than no minutes", 0, -1, api.ErrRange},
		{"no minutes", 0, 0, api.OK},
		{"10000 minutes", 0, 10000, api.OK},
		{"10001 minutes", 0, 10001, api.ErrRange},
		{"extreme minutes", 0, math.MaxInt, api.ErrRange},
		{"extreme minutes", 0, math.MinInt, api.ErrRange},
		{"up to the last minute", 990000, 10000, api.OK},
		{"beyond the last minute", 990001, 10000, api.ErrRange},
		{"no minutes at the last one", 1000000, 0, api.OK},
		{"a minute behind the last one", 1000000, 1, api.ErrRange},
	} {
		w, e := water.Run(pair(), at(x.minute), nil, x.minutes)
		if x.e == api.OK {
			want(t, x.what, []any{w, e}, []any{at(x.minute + x.minutes), api.OK})
		} else {
			wantError(t, x.what, x.e, e, w)
		}
	}
}

func TestCourse(t *testing.T) {
	n, w := yard(), yardWater()
	for _, x := range []struct {
		basin        string
		every, count int
	}{{"Dock", 1, 200}, {"Wet", 1, 200}, {"Dock", 7, 40}, {"Wet", 60, 5}, {"Dock", 1000, 1}, {"Wet", 1, 0}, {"Dock", 1000, 11}} {
		var wanted []int
		for i := range x.count {
			later, e := water.Run(n, w, yardTurns(), i*x.every)
			want(t, "Run", e, api.OK)
			l, _ := water.Levels(n, later)
			wanted = append(wanted, l[slices.Index([]string{"Dock", "Wet"}, x.basin)])
		}
		got, e := water.Course(n, w, yardTurns(), api.CourseOf{Basin: x.basin, Every: x.every, Count: x.count})
		want(t, "the course", []any{got, e}, []any{wanted, api.OK})
	}
}

func TestCourseErrors(t *testing.T) {
	for _, x := range []struct {
		what   string
		minute int
		q      api.CourseOf
		e      api.Errno
	}{
		{"no basin", 0, api.CourseOf{Basin: "Gate", Every: 1, Count: 1}, api.ErrMissing},
		{"the sea", 0, api.CourseOf{Every: 1, Count: 1}, api.ErrMissing},
		{"no basin before the numbers", 0, api.CourseOf{Basin: "a", Every: 0, Count: -1}, api.ErrMissing},
		{"Every", 0, api.CourseOf{Basin: "A", Every: 0, Count: 1}, api.ErrRange},
		{"Every", 0, api.CourseOf{Basin: "A", Every: 1, Count: 1}, api.OK},
		{"Every", 0, api.CourseOf{Basin: "A", Every: 1000, Count: 1}, api.OK},
		{"Every", 0, api.CourseOf{Basin: "A", Every: 1001, Count: 1}, api.ErrRange},
		{"Every without levels", 0, api.CourseOf{Basin: "A", Every: 0, Count: 0}, api.ErrRange},
		{"Every without levels", 0, api.CourseOf{Basin: "A", Every: 1001, Count: 0}, api.ErrRange},
		{"Count", 0, api.CourseOf{Basin: "A", Every: 1, Count: -1}, api.ErrRange},
		{"Count", 0, api.CourseOf{Basin: "A", Every: 1, Count: 0}, api.OK},
		{"Count", 0, api.CourseOf{Basin: "A", Every: 1, Count: 200}, api.OK},
		{"Count", 0, api.CourseOf{Basin: "A", Every: 1, Count: 201}, api.ErrRange},
		{"extreme numbers", 0, api.CourseOf{Basin: "A", Every: math.MaxInt, Count: math.MaxInt}, api.ErrRange},
		{"10000 minutes", 0, api.CourseOf{Basin: "A", Every: 1000, Count: 11}, api.OK},
		{"11000 minutes", 0, api.CourseOf{Basin: "A", Every: 1000, Count: 12}, api.ErrRange},
		{"9999 minutes", 0, api.CourseOf{Basin: "A", Every: 99, Count: 102}, api.OK},
		{"10001 minutes", 0, api.CourseOf{Basin: "A", Every: 73, Count: 138}, api.ErrRange},
		{"up to the last minute", 999000, api.CourseOf{Basin: "A", Every: 100, Count: 11}, api.OK},
		{"beyond the last minute", 999001, api.CourseOf{Basin: "A", Every: 100, Count: 11}, api.ErrRange},
		{"at the last minute", 1000000, api.CourseOf{Basin: "A", Every: 100, Count: 1}, api.OK},
		{"at the last minute without levels", 1000000, api.CourseOf{Basin: "A", Every: 1000}, api.OK},
	} {
		w := api.Water{Minute: x.minute, Litres: levels(700, 0), Open: []bool{false}}
		l, e := water.Course(pair(), w, nil, x.q)
		if x.e == api.OK {
			want(t, x.what, []any{l, e}, []any{slices.Repeat(levels(7), x.q.Count), api.OK})
		} else {
			wantError(t, x.what, x.e, e, l)
		}
	}
}

func TestUntil(t *testing.T) {
	n := pair()
	n.Links[0].Rate = 150
	// B has the levels 0, 1, 3, 4, 6 and so on up to 500
	w := of(n, holding(100000, 0))
	for _, x := range []struct {
		what   string
		q      api.Target
		wanted int
		e      api.Errno
	}{
		{"already there", api.Target{Basin: "B", Level: 0, Rising: true}, 0, api.OK},
		{"far above", api.Target{Basin: "A", Level: 0, Rising: true}, 0, api.OK},
		{"already there", api.Target{Basin: "A", Level: 1000}, 0, api.OK},
		{"far below", api.Target{Basin: "B", Level: 1000}, 0, api.OK},
		{"in no minutes", api.Target{Basin: "B", Level: 1, Rising: true}, 0, api.ErrNone},
		{"in a minute", api.Target{Basin: "B", Level: 1, Within: 1, Rising: true}, 1, api.OK},
		{"in a minute of many", api.Target{Basin: "B", Level: 1, Within: 10000, Rising: true}, 1, api.OK},
		{"a level that is passed", api.Target{Basin: "B", Level: 2, Within: 10, Rising: true}, 2, api.OK},
		{"a level that is met", api.Target{Basin: "B", Level: 3, Within: 10, Rising: true}, 2, api.OK},
		{"the last level", api.Target{Basin: "B", Level: 500, Within: 334, Rising: true}, 334, api.OK},
		{"the last level too late", api.Target{Basin: "B", Level: 500, Within: 333, Rising: true}, 0, api.ErrNone},
		{"no such level", api.Target{Basin: "B", Level: 501, Within: 10000, Rising: true}, 0, api.ErrNone},
		{"falling", api.Target{Basin: "A", Level: 998, Within: 10}, 1, api.OK},
		{"falling to the next level", api.Target{Basin: "A", Level: 997, Within: 10}, 2, api.OK},
		{"falling to the last level", api.Target{Basin: "A", Level: 500, Within: 333}, 333, api.OK},
		{"falling too late", api.Target{Basin: "A", Level: 500, Within: 332}, 0, api.ErrNone},
		{"falling too deep", api.Target{Basin: "A", Level: 499, Within: 10000}, 0, api.ErrNone},
		{"a rising basin does not fall", api.Target{Basin: "B", Level: -1, Within: 9}, 0, api.ErrNone},
		{"a falling basin does not rise", api.Target{Basin: "A", Level: 1001, Within: 9, Rising: true}, 0, api.ErrNone},
		{"the lowest level", api.Target{Basin: "A", Level: -1000000, Rising: true}, 0, api.OK},
		{"the highest level", api.Target{Basin: "A", Level: 1000000}, 0, api.OK},
	} {
		k, e := water.Until(n, w, nil, x.q)
		want(t, x.what, []any{k, e}, []any{x.wanted, x.e})
	}
	// an open gate is shut again, and the last turn does not count
	turns := []api.Turn{{Minute: 1, Link: "Gate"}, {Minute: 7, Link: "Gate", Open: true}}
	for within, wanted := range map[int]api.Errno{1: api.ErrNone, 6: api.ErrNone, 7: api.ErrNone, 8: api.OK, 9: api.OK} {
		k, e := water.Until(n, w, turns, api.Target{Basin: "B", Level: 2, Within: within, Rising: true})
		if wanted == api.OK {
			want(t, "behind a turn", []any{k, e}, []any{8, api.OK})
		} else {
			wantError(t, "before a turn", wanted, e, k)
		}
	}
}

func TestUntilErrors(t *testing.T) {
	for _, x := range []struct {
		what   string
		minute int
		q      api.Target
		e      api.Errno
	}{
		{"no basin", 0, api.Target{Basin: "Gate"}, api.ErrMissing},
		{"the sea", 0, api.Target{}, api.ErrMissing},
		{"no basin before the numbers", 0, api.Target{Basin: "a", Level: 1000001, Within: -1}, api.ErrMissing},
		{"Level", 0, api.Target{Basin: "A", Level: -1000001, Rising: true}, api.ErrRange},
		{"Level", 0, api.Target{Basin: "A", Level: 1000001}, api.ErrRange},
		{"Within", 0, api.Target{Basin: "A", Within: -1, Rising: true}, api.ErrRange},
		{"Within", 0, api.Target{Basin: "A", Within: 10000, Rising: true}, api.OK},
		{"Within", 0, api.Target{Basin: "A", Within: 10001, Rising: true}, api.ErrRange},
		{"extreme numbers", 0, api.Target{Basin: "A", Within: math.MaxInt, Rising: true}, api.ErrRange},
		{"up to the last minute", 999000, api.Target{Basin: "A", Within: 1000, Rising: true}, api.OK},
		{"beyond the last minute", 999001, api.Target{Basin: "A", Within: 1000, Rising: true}, api.ErrRange},
		{"at the last minute", 1000000, api.Target{Basin: "A", Rising: true}, api.OK},
	} {
		w := api.Water{Minute: x.minute, Litres: levels(700, 0), Open: []bool{false}}
		k, e := water.Until(pair(), w, nil, x.q)
		wantError(t, x.what, x.e, e, k)
	}
}

func TestUntilBySecondOpinion(t *testing.T) {
	r := rand.New(rand.NewSource(57))
	found, none := 0, 0
	for range 600 {
		n := randomNetwork(r)
		w, turns, q := randomWater(r, n), randomTurns(r, n), api.Target{Within: r.Intn(25), Level: between(r, -7, 9), Rising: r.Intn(2) == 0}
		i := r.Intn(len(n.Basins))
		q.Basin = n.Basins[i].Name
		wanted, e := 0, api.ErrNone
		for k := 0; k <= q.Within && e != api.OK; k++ {
			later, _ := secondRun(n, w, turns, k)
			level := secondLevel(n.Basins[i], later.Litres[i])
			if level == q.Level || level > q.Level == q.Rising {
				wanted, e = k, api.OK
			}
		}
		k, e2 := water.Until(n, w, turns, q)
		want(t, "Until", []any{k, e2}, []any{wanted, e})
		switch {
		case e == api.OK && k > 0:
			found++
		case e != api.OK:
			none++
		}
	}
	if found < 30 || none < 100 {
		t.Errorf("only %d levels are reached, %d are not", found, none)
	}
}

// P5.9, of networks

func TestLitresComeFromTheSea(t *testing.T) {
	r := rand.New(rand.NewSource(58))
	for range 1000 {
		n := randomNetwork(r)
		w := randomWater(r, n)
		next, flows, _ := water.Step(n, w)
		come := 0
		for i, l := range n.Links {
			switch "" {
			case l.From:
				come += flows[i]
			case l.To:
				come -= flows[i]
			}
		}
		change := 0
		for i := range n.Basins {
			change += next.Litres[i] - w.Litres[i]
		}
		want(t, "the litres that have come", change, come)
	}
}

func TestNoGateFillsHigherThanTheOtherSide(t *testing.T) {
	r := rand.New(rand.NewSource(59))
	flowing := 0
	for range 2000 {
		n := randomNetwork(r)
		n.Links = n.Links[:1]
		n.Links[0].Kind = api.Gate
		w := randomWater(r, n)
		next, flows, _ := water.Step(n, w)
		if flows[0] == 0 {
			continue
		}
		flowing++
		l := n.Links[0]
		upper, lower := l.From, l.To
		if flows[0] < 0 {
			upper, lower = lower, upper
		}
		level := func(name string) int {
			if name == "" {
				return secondTide(n.Sea, w.Minute)
			}
			return secondSide(n, next, name).level(0)
		}
		want(t, "the filled side is higher", level(lower) > level(upper), false)
	}
	if flowing < 300 {
		t.Errorf("only %d gates let water through", flowing)
	}
}

func TestRunsCanBeDivided(t *testing.T) {
	r := rand.New(rand.NewSource(60))
	for range 300 {
		n := randomNetwork(r)
		w, turns, k, l := randomWater(r, n), randomTurns(r, n), r.Intn(15), r.Intn(15)
		first, _ := water.Run(n, w, turns, k)
		parts, e := water.Run(n, first, turns, l)
		whole, e2 := water.Run(n, w, turns, k+l)
		want(t, "two runs", []any{parts, e}, []any{whole, e2})
	}
	yardParts, _ := water.Run(yard(), yardWater(), yardTurns(), 55)
	yardParts, _ = water.Run(yard(), yardParts, yardTurns(), 345)
	whole, e := water.Run(yard(), yardWater(), yardTurns(), 400)
	want(t, "the yard", []any{yardParts, api.OK}, []any{whole, e})
}

// A long run at all limits ends soon.
func TestTheLongestRun(t *testing.T) {
	n := api.Network{}
	for i := range 400 {
		n.Sea = append(n.Sea, api.Mark{Minute: 25 * i, Level: (i%2*2 - 1) * 1000000})
	}
	for _, name := range []string{"A", "B", "C", "D", "E", "F", "G", "H"} {
		b := api.Basin{Name: name, Rim: 1000000}
		for i := range 20 {
			b.Areas = append(b.Areas, api.Area{From: -1000000 + 1000*i, Size: 1 + 50000*i})
		}
		n.Basins = append(n.Basins, b)
	}
	w := api.Water{Litres: make([]int, 8)}
	for i := range 12 {
		l := gate("", n.Basins[i%8].Name, -1000000, 1000000000, 1000000000)
		if i >= 8 {
			l.From = n.Basins[i-8].Name
			l.To = n.Basins[i-4].Name
		}
		l.Name = string(rune('k' + i))
		n.Links = append(n.Links, l)
		w.Open = append(w.Open, true)
	}
	var turns []api.Turn
	for i := range 200 {
		turns = append(turns, api.Turn{Minute: 50 * i, Link: n.Links[i%12].Name, Open: i%24 >= 12})
	}
	whole, e := water.Run(n, w, turns, 10000)
	want(t, "the error", e, api.OK)
	half, _ := water.Run(n, w, turns, 5000)
	parts, _ := water.Run(n, half, turns, 5000)
	want(t, "two runs", parts, whole)
}
