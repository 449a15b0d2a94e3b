package berth_test

import (
	"fmt"
	"math"
	"math/rand"
	"slices"
	"testing"

	"keelblock/api"
	"keelblock/berth"
)

// cranes are those of the chapter's third example, which can lift 100 kg at 50.
func cranes() []api.Crane {
	return []api.Crane{{Name: "p", From: 0, To: 100, Reach: 50, Mass: 100}, {Name: "q", From: 50, To: 150, Reach: 50, Mass: 100}}
}

// lift is one from minute 0 to minute 10.
func lift(name string, x int) api.Lift {
	return api.Lift{Name: name, X: x, Out: 50, Mass: 100, Start: 0, End: 10}
}

// lifts are those of the chapter's third example.
func lifts() []api.Lift { return []api.Lift{lift("a", 60), lift("b", 70)} }

// P6.6

func TestCheckCranes(t *testing.T) {
	named := func(name string) api.Crane { return api.Crane{Name: name} }
	wrong := func(name string) api.Crane { return api.Crane{Name: name, Rail: -1} }
	wantListErrors(t, berth.CheckCranes, 4, named, wrong, api.ErrRange)
	widest := api.Crane{Name: "W", From: -1000000, To: 1000000}
	wantNumbers(t, named("Other"), widest, []numberOf[api.Crane]{
		{"Rail", 0, 10, func(c *api.Crane, n int) { c.Rail = n }},
		{"From", -1000000, 1000000, func(c *api.Crane, n int) { c.From = n }},
		{"To", -1000000, 1000000, func(c *api.Crane, n int) { c.To = n }},
		{"Reach", 0, 1000000, func(c *api.Crane, n int) { c.Reach = n }},
		{"Mass", 0, 1000000000, func(c *api.Crane, n int) { c.Mass = n }},
	}, berth.CheckCranes)
	want(t, "To less than From", berth.CheckCranes(once(api.Crane{Name: "W", From: 5, To: 4})), api.ErrRange)
	want(t, "To is From", berth.CheckCranes(once(api.Crane{Name: "W", From: 5, To: 5})), api.OK)
}

func TestCheckLifts(t *testing.T) {
	named := func(name string) api.Lift { return lift(name, 0) }
	wrong := func(name string) api.Lift { return api.Lift{Name: name, Out: -1} }
	wantListErrors(t, berth.CheckLifts, 8, named, wrong, api.ErrRange)
	disordered := func(name string) api.Lift { return api.Lift{Name: name} }
	wantListErrors(t, berth.CheckLifts, 8, named, disordered, api.ErrOrder)
	wantNumbers(t, named("Other"), api.Lift{Name: "L", End: 1000000}, []numberOf[api.Lift]{
		{"X", -1000000, 1000000, func(l *api.Lift, n int) { l.X = n }},
		{"Out", 0, 1000000, func(l *api.Lift, n int) { l.Out = n }},
		{"Mass", 0, 1000000000, func(l *api.Lift, n int) { l.Mass = n }},
	}, berth.CheckLifts)
	for _, x := range []struct {
		start, end int
		e          api.Errno
	}{
		{0, 1, api.OK}, {0, 0, api.ErrOrder}, {1, 0, api.ErrOrder}, {999999, 1000000, api.OK}, {1000000, 1000000, api.ErrOrder},
		{1000001, 1000000, api.ErrRange}, {1000001, 1000002, api.ErrRange}, {5, 1000001, api.ErrRange}, {-1, 5, api.ErrRange}, {3, -1, api.ErrRange},
		{math.MinInt, 5, api.ErrRange}, {5, math.MaxInt, api.ErrRange}, {math.MaxInt, math.MinInt, api.ErrRange},
	} {
		want(t, fmt.Sprint(x), berth.CheckLifts(once(api.Lift{Name: "L", Start: x.start, End: x.end})), x.e)
	}
	want(t, "the range before the order", berth.CheckLifts(once(api.Lift{Name: "L", Mass: -1})), api.ErrRange)
}

func TestErrorsOfCranesAndLiftsComeFirst(t *testing.T) {
	for _, x := range []struct {
		what string
		c    []api.Crane
		l    []api.Lift
		e    api.Errno
	}{
		{"many cranes", make([]api.Crane, 5), lifts(), api.ErrLarge},
		{"a crane", append(cranes(), api.Crane{Name: "r", Mass: -1}), lifts(), api.ErrRange},
		{"a crane twice", append(cranes(), cranes()[0]), lifts(), api.ErrExists},
		{"a crane before a lift", append(cranes(), api.Crane{}), once(lift("a", 1000001)), api.ErrName},
		{"many lifts", cranes(), make([]api.Lift, 9), api.ErrLarge},
		{"a lift", cranes(), once(api.Lift{Name: "a", Start: 2, End: 1}), api.ErrOrder},
		{"a lift twice", cranes(), append(lifts(), lifts()[0]), api.ErrExists},
		{"a lift, without cranes", nil, append(lifts(), lift("", 0)), api.ErrName},
	} {
		for _, by := range [][]string{nil, {"p"}, {"p", "q"}, {"?"}} {
			want(t, "CheckHoists with "+x.what, berth.CheckHoists(x.c, x.l, by), x.e)
		}
		names, e := berth.Hoists(x.c, x.l)
		wantError(t, "Hoists with "+x.what, x.e, e, names)
	}
}

func TestCheckHoists(t *testing.T) {
	at := func(do func(l *api.Lift)) []api.Lift {
		l := lifts()
		do(&l[1])
		return l
	}
	same := func(l *api.Lift) {}
	for _, x := range []struct {
		what string
		do   func(l *api.Lift) // to the second lift
		by   []string
		e    api.Errno
	}{
		{"example 3", same, []string{"p", "q"}, api.OK},
		{"no names", same, nil, api.ErrShape},
		{"few names", same, []string{"p"}, api.ErrShape},
		{"many names", same, []string{"p", "q", "p"}, api.ErrShape},
		{"the shape before a name", same, []string{"?"}, api.ErrShape},
		{"no such crane", same, []string{"p", "r"}, api.ErrMissing},
		{"no such crane in the first lift", same, []string{"", "q"}, api.ErrMissing},
		{"names are not folded", same, []string{"P", "q"}, api.ErrMissing},
		{"X least", func(l *api.Lift) { l.X = 50 }, []string{"p", "q"}, api.ErrClash},
		{"X too small", func(l *api.Lift) { l.X = 49 }, []string{"p", "q"}, api.ErrLimit},
		{"X greatest", func(l *api.Lift) { l.X = 150 }, []string{"p", "q"}, api.OK},
		{"X too great", func(l *api.Lift) { l.X = 151 }, []string{"p", "q"}, api.ErrLimit},
		{"Out too great", func(l *api.Lift) { l.Out = 51 }, []string{"p", "q"}, api.ErrLimit},
		{"Mass too great", func(l *api.Lift) { l.Mass = 101 }, []string{"p", "q"}, api.ErrLimit},
		{"no reach", func(l *api.Lift) { l.Out = 0 }, []string{"p", "q"}, api.OK},
		{"no mass", func(l *api.Lift) { l.Mass = 0 }, []string{"p", "q"}, api.OK},
		{"a limit before a clash", func(l *api.Lift) { l.X = 151 }, []string{"q", "q"}, api.ErrLimit},
		{"the same crane", same, []string{"p", "p"}, api.ErrClash},
		{"the other same crane", same, []string{"q", "q"}, api.ErrClash},
		{"the wrong order", same, []string{"q", "p"}, api.ErrClash},
		{"the right order", func(l *api.Lift) { l.X = 59 }, []string{"q", "p"}, api.OK},
		{"the same place", func(l *api.Lift) { l.X = 60 }, []string{"p", "q"}, api.ErrClash},
		{"the same place, the other way round", func(l *api.Lift) { l.X = 60 }, []string{"q", "p"}, api.ErrClash},
		{"a later time", func(l *api.Lift) { l.Start, l.End = 10, 11 }, []string{"q", "p"}, api.OK},
		{"a later time of one crane", func(l *api.Lift) { l.Start, l.End = 10, 11 }, []string{"p", "p"}, api.OK},
		{"a minute", func(l *api.Lift) { l.Start, l.End = 9, 11 }, []string{"p", "p"}, api.ErrClash},
		{"a minute of two", func(l *api.Lift) { l.Start, l.End = 9, 11 }, []string{"q", "p"}, api.ErrClash},
		{"within the other time", func(l *api.Lift) { l.Start, l.End = 3, 4 }, []string{"q", "p"}, api.ErrClash},
	} {
		want(t, x.what, berth.CheckHoists(cranes(), at(x.do), x.by), x.e)
	}
	// an error of the first lift comes before that of the second one
	l := lifts()
	l[0].X = 0
	want(t, "a limit, and no such crane", berth.CheckHoists(cranes(), l, []string{"q", "?"}), api.ErrLimit)
	want(t, "nothing", berth.CheckHoists(nil, nil, nil), api.OK)
	want(t, "no lifts", berth.CheckHoists(cranes(), nil, nil), api.OK)
	want(t, "no cranes", berth.CheckHoists(nil, lifts(), []string{"p", "q"}), api.ErrMissing)
}

// A lift that begins before another one, or ends behind it, overlaps it from the other side, too.
func TestTimesOfHoists(t *testing.T) {
	for _, x := range []struct {
		a, b    [2]int
		overlap bool
	}{
		{[2]int{5, 8}, [2]int{8, 9}, false}, {[2]int{5, 8}, [2]int{7, 9}, true}, {[2]int{5, 8}, [2]int{4, 5}, false}, {[2]int{5, 8}, [2]int{4, 6}, true},
		{[2]int{5, 8}, [2]int{5, 8}, true}, {[2]int{5, 8}, [2]int{0, 20}, true}, {[2]int{5, 8}, [2]int{6, 7}, true}, {[2]int{5, 8}, [2]int{20, 21}, false},
	} {
		l := lifts()
		l[0].Start, l[0].End, l[1].Start, l[1].End = x.a[0], x.a[1], x.b[0], x.b[1]
		wanted := api.OK
		if x.overlap {
			wanted = api.ErrClash
		}
		want(t, fmt.Sprint(x), berth.CheckHoists(cranes(), l, []string{"q", "q"}), wanted)
		want(t, fmt.Sprint(x), berth.CheckHoists(cranes(), l, []string{"q", "p"}), wanted)
	}
}

// The order of cranes on a rail is that of From, and then that of the list, whatever their To is.
func TestTheOrderOnARail(t *testing.T) {
	reach := func(name string, rail, from, to int) api.Crane {
		return api.Crane{Name: name, Rail: rail, From: from, To: to, Reach: 50, Mass: 100}
	}
	for _, x := range []struct {
		what string
		c    []api.Crane
		by   []string // for the lifts at 60 and 70
		e    api.Errno
	}{
		{"behind by From", []api.Crane{reach("p", 0, 10, 90), reach("q", 0, 0, 100)}, []string{"p", "q"}, api.ErrClash},
		{"before by From", []api.Crane{reach("p", 0, 10, 90), reach("q", 0, 0, 100)}, []string{"q", "p"}, api.OK},
		{"the same From", []api.Crane{reach("q", 0, 0, 100), reach("p", 0, 0, 90)}, []string{"q", "p"}, api.OK},
		{"the same From, the wrong order", []api.Crane{reach("q", 0, 0, 100), reach("p", 0, 0, 90)}, []string{"p", "q"}, api.ErrClash},
		{"other rails", []api.Crane{reach("q", 0, 0, 100), reach("p", 1, 0, 90)}, []string{"p", "q"}, api.OK},
		{"the same rail, not the first one", []api.Crane{reach("q", 10, 0, 100), reach("p", 10, 0, 90)}, []string{"p", "q"}, api.ErrClash},
		{"a crane of another rail between", []api.Crane{reach("q", 3, 0, 100), reach("r", 2, 5, 95), reach("p", 3, 10, 90)}, []string{"p", "q"}, api.ErrClash},
	} {
		want(t, x.what, berth.CheckHoists(x.c, lifts(), x.by), x.e)
	}
	// cranes on other rails may be at the same place
	c := []api.Crane{reach("q", 0, 0, 100), reach("p", 1, 0, 90)}
	want(t, "the same place", berth.CheckHoists(c, []api.Lift{lift("a", 60), lift("b", 60)}, []string{"p", "q"}), api.OK)
}

func TestHoists(t *testing.T) {
	for _, x := range []struct {
		what string
		c    []api.Crane
		l    []api.Lift
		by   []string
		e    api.Errno
	}{
		{"example 3", cranes(), lifts(), []string{"p", "q"}, api.OK},
		{"example 3, the other way round", cranes(), []api.Lift{lift("a", 70), lift("b", 60)}, []string{"q", "p"}, api.OK},
		{"the same place", cranes(), []api.Lift{lift("a", 60), lift("b", 60)}, nil, api.ErrNone},
		{"three at a time", cranes(), append(lifts(), lift("c", 80)), nil, api.ErrNone},
		{"too far", cranes(), once(lift("a", 151)), nil, api.ErrNone},
		{"no cranes", nil, lifts(), nil, api.ErrNone},
		{"no lifts", cranes(), nil, nil, api.OK},
		{"nothing", nil, nil, nil, api.OK},
		{"the first crane", cranes(), once(lift("a", 60)), []string{"p"}, api.OK},
		{"the only crane", cranes(), once(lift("a", 120)), []string{"q"}, api.OK},
		{"the order of the list", []api.Crane{cranes()[1], cranes()[0]}, once(lift("a", 60)), []string{"q"}, api.OK},
		{"a crane that leaves room", cranes(), []api.Lift{lift("a", 60), lift("b", 20)}, []string{"q", "p"}, api.OK},
	} {
		by, e := berth.Hoists(x.c, x.l)
		want(t, x.what, []any{by, e}, []any{x.by, x.e})
	}
}

// secondHoists reports whether the cranes can make the lifts, minute by minute: it places the cranes
// of each rail, in their order, and demands that each one stands behind the one before it.
func secondHoists(c []api.Crane, l []api.Lift, by []string) bool {
	order := slices.Clone(c)
	slices.SortStableFunc(order, func(a, b api.Crane) int { return a.From - b.From })
	for i, x := range l {
		y := c[slices.IndexFunc(c, func(y api.Crane) bool { return y.Name == by[i] })]
		if x.X < y.From || x.X > y.To || x.Out > y.Reach || x.Mass > y.Mass {
			return false
		}
	}
	for minute := range 12 {
		last := map[int]int{}
		for _, y := range order {
			busy := 0
			for i, x := range l {
				if by[i] != y.Name || minute < x.Start || minute >= x.End {
					continue
				}
				before, there := last[y.Rail]
				if busy++; busy > 1 || there && x.X <= before {
					return false
				}
				last[y.Rail] = x.X
			}
		}
	}
	return true
}

func randomCranes(r *rand.Rand) ([]api.Crane, []api.Lift) {
	var c []api.Crane
	var l []api.Lift
	for i := range between(r, 1, 4) {
		from := r.Intn(4)
		c = append(c, api.Crane{Name: fmt.Sprint("C", i), Rail: r.Intn(2), From: from, To: from + r.Intn(8), Reach: between(r, 2, 4), Mass: between(r, 2, 4)})
	}
	for i := range between(r, 1, 5) {
		start := r.Intn(8)
		l = append(l, api.Lift{Name: fmt.Sprint("L", i), X: r.Intn(9), Out: r.Intn(4), Mass: r.Intn(4), Start: start, End: start + between(r, 1, 4)})
	}
	return c, l
}

// P6.8: an accepted list never has two cranes in the wrong order; Hoists returns the first one.
func TestHoistsBySecondOpinion(t *testing.T) {
	r := rand.New(rand.NewSource(31))
	count := map[string]int{}
	for range 6000 {
		c, l := randomCranes(r)
		var wanted []string
		var next func(by []string)
		next = func(by []string) {
			if wanted != nil {
				return
			}
			right := secondHoists(c, l[:len(by)], by)
			e := berth.CheckHoists(c, l[:len(by)], by)
			if (e == api.OK) != right {
				t.Fatal(c, l, by, e)
			}
			count[fmt.Sprint("error ", e)]++
			if right && len(by) == len(l) {
				wanted = by
			}
			if !right || len(by) == len(l) {
				return
			}
			for _, x := range c {
				next(append(slices.Clone(by), x.Name))
			}
		}
		next(nil)
		by, e := berth.Hoists(c, l)
		if wanted == nil {
			wantError(t, fmt.Sprint(c, l), api.ErrNone, e, by)
			count["none"]++
		} else {
			want(t, fmt.Sprint(c, l), []any{by, e}, []any{wanted, api.OK})
			count[fmt.Sprint(len(by))]++
		}
	}
	for _, what := range []string{"none", "1", "2", "3", "4", "5", fmt.Sprint("error ", api.OK), fmt.Sprint("error ", api.ErrLimit), fmt.Sprint("error ", api.ErrClash)} {
		if count[what] < 50 {
			t.Error(count)
		}
	}
}

// The longest search: eight lifts that all four cranes can make, but not together.
func TestHoistsOfTheMost(t *testing.T) {
	var c []api.Crane
	var l []api.Lift
	for i := range 4 {
		c = append(c, api.Crane{Name: fmt.Sprint("C", i), To: 10, Reach: 5, Mass: 5})
	}
	for i := range 8 {
		l = append(l, api.Lift{Name: fmt.Sprint("L", i), X: i % 4, Start: 10 * (i / 4), End: 10*(i/4) + 10})
	}
	by, e := berth.Hoists(c, l)
	want(t, "the lifts", []any{by, e}, []any{[]string{"C0", "C1", "C2", "C3", "C0", "C1", "C2", "C3"}, api.OK})
	l[7].X = 11
	by, e = berth.Hoists(c, l)
	wantError(t, "a lift too far", api.ErrNone, e, by)
}
