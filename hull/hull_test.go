package hull_test

import (
	"fmt"
	"math"
	"strings"
	"testing"

	"keelblock/api"
	"keelblock/hull"
)

// P2.1

// A fault is a change of the tug, and the error that it has then.
type fault struct {
	what   string
	change func(s *api.Ship)
	wanted api.Errno
}

// first changes the first station.
func first(f func(t *api.Station)) func(s *api.Ship) {
	return func(s *api.Ship) { f(&s.Stations[0]) }
}

// second changes the second station.
func second(f func(t *api.Station)) func(s *api.Ship) {
	return func(s *api.Ship) { f(&s.Stations[1]) }
}

// light changes the load of the ship itself.
func light(f func(l *api.Load)) func(s *api.Ship) {
	return func(s *api.Ship) { f(&s.Light) }
}

// oil changes the first item.
func oil(f func(l *api.Load)) func(s *api.Ship) {
	return func(s *api.Ship) { f(&s.Items[0]) }
}

// stations puts so many into the ship, each of which touches the one before.
func stations(n int) func(s *api.Ship) {
	return func(s *api.Ship) {
		s.Stations = nil
		for i := range n {
			s.Stations = append(s.Stations, api.Station{X: 10 * i, Width: 10, Levels: []int{0, 1}, Halves: []int{1}})
		}
	}
}

// items puts so many into the ship.
func items(n int) func(s *api.Ship) {
	return func(s *api.Ship) {
		s.Items = nil
		for i := range n {
			s.Items = append(s.Items, api.Load{Name: fmt.Sprint("I", i), Mass: i})
		}
	}
}

// levels puts so many levels and half breadths into the first station.
func levels(n, halves int) func(s *api.Ship) {
	return first(func(t *api.Station) {
		t.Levels, t.Halves = nil, make([]int, halves)
		for i := range n {
			t.Levels = append(t.Levels, 7*i)
		}
	})
}

// both makes all changes, in order.
func both(l ...func(s *api.Ship)) func(s *api.Ship) {
	return func(s *api.Ship) {
		for _, f := range l {
			f(s)
		}
	}
}

func shipFaults() []fault {
	long := func(n int) func(s *api.Ship) { return func(s *api.Ship) { s.Length = n } }
	named := func(name string) func(s *api.Ship) { return func(s *api.Ship) { s.Name = name } }
	return []fault{
		{"the tug", func(s *api.Ship) {}, api.OK},
		{"the shortest ship", long(1), api.OK},
		{"the longest ship", long(1000000), api.OK},
		{"no length", long(0), api.ErrRange},
		{"a ship too long", long(1000001), api.ErrRange},
		{"the least int", long(math.MinInt), api.ErrRange},
		{"no name", named(""), api.ErrName},
		{"the name before the length", both(named("2"), long(0)), api.ErrName},
		{"no station", stations(0), api.ErrRange},
		{"1 station", stations(1), api.OK},
		{"40 stations", stations(40), api.OK},
		{"41 stations", stations(41), api.ErrRange},
		{"41 stations with a bad one", both(stations(41), first(func(t *api.Station) { t.Levels = nil })), api.ErrRange},
		{"a ship like a load", named("Oil"), api.OK},
	}
}

func stationFaults() []fault {
	x := func(n int) func(s *api.Ship) { return first(func(t *api.Station) { t.X = n }) }
	far := func(n int) func(s *api.Ship) {
		return func(s *api.Ship) { s.Stations[2].X = n }
	}
	width := func(n int) func(s *api.Ship) { return first(func(t *api.Station) { t.Width = n }) }
	wide := func(n int) func(s *api.Ship) {
		return both(func(s *api.Ship) { s.Stations[2].Width = n }, far(500000))
	}
	return []fault{
		{"a place far aft", x(-1000000), api.OK},
		{"a place too far aft", x(-1000001), api.ErrRange},
		{"a place far forward", far(1000000), api.OK},
		{"a place too far forward", far(1000001), api.ErrRange},
		{"the greatest int", far(math.MaxInt), api.ErrRange},
		{"the least width", width(1), api.OK},
		{"no width", width(0), api.ErrRange},
		{"the greatest width", wide(100000), api.OK},
		{"too great a width", wide(100001), api.ErrRange},
		{"the greatest int as a width", wide(math.MaxInt), api.ErrRange},
		{"an equal place", x(501), api.ErrOrder},
		{"a place behind the next", x(502), api.ErrOrder},
		{"equal places far away", both(x(900000), second(func(t *api.Station) { t.X = 900000 })), api.ErrOrder},
		{"strips that touch", x(-500), api.OK},
		{"strips that overlap", x(-499), api.ErrClash},
		{"strips that overlap by a half", width(1002), api.ErrClash},
		{"strips that leave a half", width(1000), api.OK},
		{"the range before the order", second(func(t *api.Station) { t.X, t.Width = -500, 0 }), api.ErrRange},
		{"the clash before the shape", both(width(1002), second(func(t *api.Station) { t.Levels = nil })), api.ErrClash},
		{"the order before the shape", both(x(501), second(func(t *api.Station) { t.Levels = nil })), api.ErrOrder},
		{"the first station before the second", both(levels(1, 0), second(func(t *api.Station) { t.Width = 0 })), api.ErrShape},
		{"its half breadths too", both(first(func(t *api.Station) { t.Levels[1] = 100 }), second(func(t *api.Station) { t.Width = 0 })), api.ErrOrder},
	}
}

func formFaults() []fault {
	level := func(k, z int) func(s *api.Ship) { return first(func(t *api.Station) { t.Levels[k] = z }) }
	half := func(k, h int) func(s *api.Ship) { return first(func(t *api.Station) { t.Halves[k] = h }) }
	return []fault{
		{"2 levels", levels(2, 1), api.OK},
		{"30 levels", levels(30, 29), api.OK},
		{"no level", levels(0, 0), api.ErrShape},
		{"1 level", levels(1, 0), api.ErrShape},
		{"31 levels", levels(31, 30), api.ErrShape},
		{"a half breadth too few", levels(3, 1), api.ErrShape},
		{"a half breadth too many", levels(3, 3), api.ErrShape},
		{"the shape before the levels", both(levels(3, 3), level(0, -1)), api.ErrShape},
		{"the lowest level", level(0, 0), api.OK},
		{"a level below the keel", level(0, -1), api.ErrRange},
		{"the highest level", level(2, 100000), api.OK},
		{"a level too high", level(2, 100001), api.ErrRange},
		{"equal levels", level(1, 100), api.ErrOrder},
		{"equal levels at the end", level(2, 1000), api.ErrOrder},
		{"a level below the one before", level(1, 99), api.ErrOrder},
		{"the range of a level before its order", level(1, -1), api.ErrRange},
		{"the first level that is wrong", both(level(1, 100), level(2, -1)), api.ErrOrder},
		{"levels before half breadths", both(level(1, 100), half(0, -1)), api.ErrOrder},
		{"no half breadth", half(0, 0), api.OK},
		{"a negative half breadth", half(0, -1), api.ErrRange},
		{"the greatest half breadth", half(1, 100000), api.OK},
		{"a half breadth too great", half(1, 100001), api.ErrRange},
		{"a half breadth before Light", both(half(0, -1), light(func(l *api.Load) { l.Name = "" })), api.ErrRange},
	}
}

func loadFaults() []fault {
	ship := func(f func(s *api.Ship)) func(s *api.Ship) { return f }
	return []fault{
		{"Light without a name", light(func(l *api.Load) { l.Name = "" }), api.ErrName},
		{"Light without a mass", light(func(l *api.Load) { l.Mass = 0 }), api.ErrRange},
		{"the least Light", light(func(l *api.Load) { l.Mass = 1 }), api.OK},
		{"Light's name before its mass", light(func(l *api.Load) { l.Name, l.Mass = "-", 0 }), api.ErrName},
		{"no items", items(0), api.OK},
		{"60 items", items(60), api.OK},
		{"61 items", items(61), api.ErrLarge},
		{"61 items with a bad one", both(items(61), oil(func(l *api.Load) { l.Name = "" })), api.ErrLarge},
		{"a bad Light before 61 items", both(items(61), light(func(l *api.Load) { l.Mass = 0 })), api.ErrRange},
		{"an item like Light", oil(func(l *api.Load) { l.Name = "Light" }), api.ErrExists},
		{"an item like another", ship(func(s *api.Ship) { s.Items[3].Name = "Oil" }), api.ErrExists},
		{"an item like the one before", ship(func(s *api.Ship) { s.Items[1].Name = "Oil" }), api.ErrExists},
		{"an item in small letters", ship(func(s *api.Ship) { s.Items[3].Name = "oil" }), api.OK},
		{"a name before its range", oil(func(l *api.Load) { l.Name, l.Mass = "Light", -1 }), api.ErrExists},
		{"a bad name before its range", oil(func(l *api.Load) { l.Name, l.X = "", 1000001 }), api.ErrName},
		{"the first item that is wrong", ship(func(s *api.Ship) { s.Items[0].Free, s.Items[1].Name = -1, "" }), api.ErrRange},
		{"an item without mass", oil(func(l *api.Load) { l.Mass = 0 }), api.OK},
		{"a negative mass", oil(func(l *api.Load) { l.Mass = -1 }), api.ErrRange},
	}
}

// numberFaults are those that Light and items have in common.
func numberFaults(at func(f func(l *api.Load)) func(s *api.Ship)) []fault {
	return []fault{
		{"the greatest mass", at(func(l *api.Load) { l.Mass = 1000000000 }), api.OK},
		{"too great a mass", at(func(l *api.Load) { l.Mass = 1000000001 }), api.ErrRange},
		{"far aft", at(func(l *api.Load) { l.X = -1000000 }), api.OK},
		{"too far aft", at(func(l *api.Load) { l.X = -1000001 }), api.ErrRange},
		{"far forward", at(func(l *api.Load) { l.X = 1000000 }), api.OK},
		{"too far forward", at(func(l *api.Load) { l.X = 1000001 }), api.ErrRange},
		{"deep", at(func(l *api.Load) { l.Z = -100000 }), api.OK},
		{"too deep", at(func(l *api.Load) { l.Z = -100001 }), api.ErrRange},
		{"high", at(func(l *api.Load) { l.Z = 100000 }), api.OK},
		{"too high", at(func(l *api.Load) { l.Z = 100001 }), api.ErrRange},
		{"no free surface", at(func(l *api.Load) { l.Free = 0 }), api.OK},
		{"a negative free surface", at(func(l *api.Load) { l.Free = -1 }), api.ErrRange},
		{"the greatest free surface", at(func(l *api.Load) { l.Free = 1000000000 }), api.OK},
		{"too great a free surface", at(func(l *api.Load) { l.Free = 1000000001 }), api.ErrRange},
		{"the least int", at(func(l *api.Load) { l.Z = math.MinInt }), api.ErrRange},
	}
}

func allFaults() []fault {
	var out []fault
	for _, l := range [][]fault{shipFaults(), stationFaults(), formFaults(), loadFaults(), numberFaults(light), numberFaults(oil)} {
		out = append(out, l...)
	}
	return out
}

func TestCheck(t *testing.T) {
	for _, f := range allFaults() {
		s := tug()
		f.change(&s)
		wantError(t, f.what, f.wanted, hull.Check(s))
	}
	wantError(t, "nothing", api.ErrName, hull.Check(api.Ship{}))
	wantError(t, "the barge", api.OK, hull.Check(barge()))
}

func TestNames(t *testing.T) {
	good := []string{"A", "z", "Z", "a-", "Q0", "q9-Zz", "A23456789-12", strings.Repeat("x", 12)}
	bad := []string{"", "-", "-a", "0", "9a", "A23456789-123", "a b", " a", "a ", "a\n", "a_", "a.", "Ä", "aé", "a\x00", "a\xff", strings.Repeat("x", 1000)}
	for _, c := range "@[`{/:" {
		bad = append(bad, string(c), "a"+string(c))
	}
	for _, name := range append(good, bad...) {
		wanted := api.ErrName
		for _, g := range good {
			if g == name {
				wanted = api.OK
			}
		}
		s := tug()
		s.Name = name
		wantError(t, "a ship "+name, wanted, hull.Check(s))
		s = tug()
		s.Light.Name = name
		wantError(t, "Light "+name, wanted, hull.Check(s))
		s = tug()
		s.Items[3].Name = name
		wantError(t, "an item "+name, wanted, hull.Check(s))
	}
}

// P1: the error of the ship comes before those of all other arguments, which are bad here.
func TestErrorOfTheShipIsFirst(t *testing.T) {
	for _, f := range allFaults() {
		s := tug()
		f.change(&s)
		if f.wanted == api.OK {
			continue
		}
		wantShipError(t, f.what, s, f.wanted)
	}
}

func wantShipError(t *testing.T, what string, s api.Ship, wanted api.Errno) {
	t.Helper()
	text, e := hull.Print(s)
	wantError(t, "Print of "+what, wanted, e, text)
	h, e := hull.Hydrostatics(s, at("-1", "0"), 0)
	wantError(t, "Hydrostatics of "+what, wanted, e, h)
	l, e := hull.Table(s, make([]int, 101), 0)
	wantError(t, "Table of "+what, wanted, e, l)
	x, e := hull.Draught(s, 0, 0)
	wantError(t, "Draught of "+what, wanted, e, x)
	c, e := hull.Loads(s)
	wantError(t, "Loads of "+what, wanted, e, c)
	with, e := hull.With(s, api.Load{Name: "More", Mass: -1})
	wantError(t, "With of "+what, wanted, e, with)
	without, e := hull.Without(s, "nothing")
	wantError(t, "Without of "+what, wanted, e, without)
	moved, e := hull.Move(s, "nothing", 2000000, 0)
	wantError(t, "Move of "+what, wanted, e, moved)
	supports, e := hull.Supports(s, 0)
	wantError(t, "Supports of "+what, wanted, e, supports)
	stable, e := hull.Stability(s, at("-1", "0"), api.Raised{Upthrust: num("-1")})
	wantError(t, "Stability of "+what, wanted, e, stable)
	stable, e = hull.Experiment(api.Incline{Ship: s, Attitude: at("-1", "0")})
	wantError(t, "Experiment of "+what, wanted, e, stable)
	draughts, e := hull.Draughts(s, at("1", "0"))
	wantError(t, "Draughts of "+what, wanted, e, draughts)
	forces, e := hull.Strength(s, at("-1", "0"), 0)
	wantError(t, "Strength of "+what, wanted, e, forces)
}
