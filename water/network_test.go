package water_test

import (
	"fmt"
	"math"
	"slices"
	"testing"

	"keelblock/api"
	"keelblock/water"
)

// P5.3

// A networkChange makes the yard right or wrong.
type networkChange struct {
	what string
	do   func(n *api.Network)
	e    api.Errno
}

func changedNetwork(c networkChange) api.Network {
	n := yard()
	c.do(&n)
	return n
}

func basin(i int, do func(b *api.Basin)) func(n *api.Network) {
	return func(n *api.Network) { do(&n.Basins[i]) }
}

func link(i int, do func(l *api.Link)) func(n *api.Network) {
	return func(n *api.Network) { do(&n.Links[i]) }
}

// sizes makes a network with so many basins and links.
func sizes(basins, links int) func(n *api.Network) {
	return func(n *api.Network) {
		n.Basins, n.Links = nil, nil
		for i := range basins {
			n.Basins = append(n.Basins, box(fmt.Sprint("B", i)))
		}
		for i := range links {
			n.Links = append(n.Links, api.Link{Name: fmt.Sprint("L", i), From: "B0"})
		}
	}
}

func networkChanges() []networkChange {
	return slices.Concat(listChanges(), endChanges(), rateChanges())
}

// listChanges are those of the lists and of what stands in them beside links.
func listChanges() []networkChange {
	return []networkChange{
		{"nothing", func(n *api.Network) {}, api.OK},
		{"no network", func(n *api.Network) { *n = api.Network{} }, api.OK},
		{"8 basins and 12 links", sizes(8, 12), api.OK},
		{"9 basins", sizes(9, 12), api.ErrLarge},
		{"13 links", sizes(8, 13), api.ErrLarge},
		{"too many basins before a wrong one", func(n *api.Network) { n.Basins = make([]api.Basin, 9) }, api.ErrLarge},
		{"too many links before a wrong one", func(n *api.Network) { n.Links = make([]api.Link, 13) }, api.ErrLarge},
		{"the name of a basin", basin(0, func(b *api.Basin) { b.Name = "" }), api.ErrName},
		{"the name before the areas", basin(1, func(b *api.Basin) { b.Name, b.Areas = "1", nil }), api.ErrName},
		{"a name twice", basin(1, func(b *api.Basin) { b.Name = "Dock" }), api.ErrExists},
		{"names are not folded", basin(1, func(b *api.Basin) { b.Name = "dock" }), api.ErrMissing},
		{"a name twice before the areas", basin(1, func(b *api.Basin) { b.Name, b.Areas = "Dock", nil }), api.ErrExists},
		{"the areas before the next name", func(n *api.Network) { n.Basins[0].Areas, n.Basins[1].Name = nil, "" }, api.ErrRange},
		{"areas", basin(1, func(b *api.Basin) { b.Areas[1].From = -500 }), api.ErrOrder},
		{"a rim", basin(1, func(b *api.Basin) { b.Rim = 900 }), api.ErrRange},
		{"a basin before the sea", func(n *api.Network) { n.Basins[1].Name, n.Sea[0].Level = "Dock", 1000001 }, api.ErrExists},
		{"the sea", func(n *api.Network) { n.Sea[1].Minute = 10 }, api.ErrOrder},
		{"the sea", func(n *api.Network) { n.Sea[1].Minute = -1 }, api.ErrRange},
		{"too much sea", func(n *api.Network) { n.Sea = manyMarks(401) }, api.ErrLarge},
		{"the sea before the links", func(n *api.Network) { n.Sea[1].Minute, n.Links[0].Name = 10, "" }, api.ErrOrder},
		{"no sea", func(n *api.Network) { n.Sea, n.Links = nil, n.Links[1:2] }, api.OK},
	}
}

// endChanges are those of what links join.
func endChanges() []networkChange {
	return []networkChange{
		{"the name of a link", link(1, func(l *api.Link) { l.Name = "1" }), api.ErrName},
		{"the name of a link before its kind", link(1, func(l *api.Link) { l.Name, l.Kind = "", 2 }), api.ErrName},
		{"a link twice", link(1, func(l *api.Link) { l.Name = "Flood" }), api.ErrExists},
		{"a link twice before its kind", link(1, func(l *api.Link) { l.Name, l.Kind = "Flood", 2 }), api.ErrExists},
		{"a link with the name of a basin", link(1, func(l *api.Link) { l.Name = "Wet" }), api.OK},
		{"a kind", link(1, func(l *api.Link) { l.Kind = 2 }), api.ErrForm},
		{"a kind", link(1, func(l *api.Link) { l.Kind = -1 }), api.ErrForm},
		{"a kind before the sides", link(1, func(l *api.Link) { l.Kind, l.From = 2, "X" }), api.ErrForm},
		{"From", link(1, func(l *api.Link) { l.From = "Cross" }), api.ErrMissing},
		{"To", link(1, func(l *api.Link) { l.To = "dock" }), api.ErrMissing},
		{"equal sides that are missing", link(1, func(l *api.Link) { l.From, l.To = "X", "X" }), api.ErrMissing},
		{"equal sides", link(1, func(l *api.Link) { l.From, l.To = "Wet", "Wet" }), api.ErrForm},
		{"the sea on both sides", link(0, func(l *api.Link) { l.From, l.To = "", "" }), api.ErrForm},
		{"the sea on both sides without marks", func(n *api.Network) { n.Sea, n.Links[0].To = nil, "" }, api.ErrForm},
		{"equal sides before the rate", link(1, func(l *api.Link) { l.From, l.Rate = "Dock", -1 }), api.ErrForm},
		{"From is the sea, without marks", func(n *api.Network) { n.Sea, n.Links = nil, n.Links[:1] }, api.ErrNone},
		{"To is the sea, without marks", func(n *api.Network) { n.Sea, n.Links = nil, n.Links[2:3] }, api.ErrNone},
		{"no marks before the rate", func(n *api.Network) { n.Sea, n.Links[0].Rate = nil, -1 }, api.ErrNone},
		{"a link before the name of the next one", func(n *api.Network) { n.Links[0].Rate, n.Links[1].Name = -1, "" }, api.ErrRange},
	}
}

// rateChanges are those of the numbers of links: 0 and 1 are gates, 2 and 3 pumps.
func rateChanges() []networkChange {
	return []networkChange{
		{"Rate", link(1, func(l *api.Link) { l.Rate = -1 }), api.ErrRange},
		{"Rate", link(1, func(l *api.Link) { l.Rate = 0 }), api.OK},
		{"Rate", link(1, func(l *api.Link) { l.Rate = 1000000000 }), api.OK},
		{"Rate", link(1, func(l *api.Link) { l.Rate = 1000000001 }), api.ErrRange},
		{"Rate of a pump", link(2, func(l *api.Link) { l.Rate = -1 }), api.ErrRange},
		{"Rate of a pump", link(2, func(l *api.Link) { l.Rate = 1000000001 }), api.ErrRange},
		{"Sill", link(0, func(l *api.Link) { l.Sill = -1000001 }), api.ErrRange},
		{"Sill", link(0, func(l *api.Link) { l.Sill = -1000000 }), api.OK},
		{"Sill", link(0, func(l *api.Link) { l.Sill = 1000000 }), api.OK},
		{"Sill", link(0, func(l *api.Link) { l.Sill = 1000001 }), api.ErrRange},
		{"Factor", link(0, func(l *api.Link) { l.Factor = -1 }), api.ErrRange},
		{"Factor", link(0, func(l *api.Link) { l.Factor = 0 }), api.OK},
		{"Factor", link(0, func(l *api.Link) { l.Factor = 1000000000 }), api.OK},
		{"Factor", link(0, func(l *api.Link) { l.Factor = 1000000001 }), api.ErrRange},
		{"Lift", link(2, func(l *api.Link) { l.Lift = -1 }), api.ErrRange},
		{"Lift", link(2, func(l *api.Link) { l.Lift = 0 }), api.OK},
		{"Lift", link(2, func(l *api.Link) { l.Lift = 1000000 }), api.OK},
		{"Lift", link(2, func(l *api.Link) { l.Lift = 1000001 }), api.ErrRange},
		{"Lift of a gate", link(0, func(l *api.Link) { l.Lift = -1 }), api.OK},
		{"Sill and Factor of a pump", link(2, func(l *api.Link) { l.Sill, l.Factor = 1000001, -1 }), api.OK},
	}
}

func TestCheckNetwork(t *testing.T) {
	for _, c := range networkChanges() {
		want(t, c.what, water.CheckNetwork(changedNetwork(c)), c.e)
	}
}

// wantStateError demands an error of all functions with a state.
func wantStateError(t *testing.T, what string, wanted api.Errno, n api.Network, w api.Water) {
	t.Helper()
	l, e := water.Levels(n, w)
	wantError(t, "Levels with "+what, wanted, e, l)
	q, e := water.Flow(n, w, "?")
	wantError(t, "Flow with "+what, wanted, e, q)
	next, flows, e := water.Step(n, w)
	wantError(t, "Step with "+what, wanted, e, next, flows)
	// the turns are wrong too
	wantTurnsError(t, what, wanted, n, w, make([]api.Turn, 201))
}

// wantTurnsError demands an error of all functions with turns.
func wantTurnsError(t *testing.T, what string, wanted api.Errno, n api.Network, w api.Water, turns []api.Turn) {
	t.Helper()
	next, e := water.Run(n, w, turns, -1)
	wantError(t, "Run with "+what, wanted, e, next)
	l, e := water.Course(n, w, turns, api.CourseOf{})
	wantError(t, "Course with "+what, wanted, e, l)
	k, e := water.Until(n, w, turns, api.Target{})
	wantError(t, "Until with "+what, wanted, e, k)
}

func TestErrorsOfTheNetworkComeFirst(t *testing.T) {
	for _, c := range networkChanges() {
		if c.e == api.OK {
			continue
		}
		n := changedNetwork(c)
		w, e := water.Fill(n, -1, nil)
		wantError(t, "Fill with "+c.what, c.e, e, w)
		wantStateError(t, c.what, c.e, n, api.Water{Minute: -1})
	}
}

// A stateChange makes the state of the yard wrong.
type stateChange struct {
	what string
	do   func(w *api.Water)
	e    api.Errno
}

func stateChanges() []stateChange {
	return []stateChange{
		{"an early minute", func(w *api.Water) { w.Minute = -1 }, api.ErrRange},
		{"a late minute", func(w *api.Water) { w.Minute = 1000001 }, api.ErrRange},
		{"the minute before the shape", func(w *api.Water) { w.Minute, w.Litres = math.MinInt, nil }, api.ErrRange},
		{"no state", func(w *api.Water) { *w = api.Water{} }, api.ErrShape},
		{"few litres", func(w *api.Water) { w.Litres = w.Litres[:1] }, api.ErrShape},
		{"many litres", func(w *api.Water) { w.Litres = append(w.Litres, 0) }, api.ErrShape},
		{"few links", func(w *api.Water) { w.Open = w.Open[:3] }, api.ErrShape},
		{"many links", func(w *api.Water) { w.Open = append(w.Open, false) }, api.ErrShape},
		{"the links before the litres", func(w *api.Water) { w.Litres[0], w.Open = -1, nil }, api.ErrShape},
		{"less than nothing", func(w *api.Water) { w.Litres[0] = -1 }, api.ErrRange},
		{"more than the dock holds", func(w *api.Water) { w.Litres[0] = 500001 }, api.ErrRange},
		{"less than nothing in the last one", func(w *api.Water) { w.Litres[1] = math.MinInt }, api.ErrRange},
		{"more than the last one holds", func(w *api.Water) { w.Litres[1] = 500*70 + 900*90 + 600*50 + 1 }, api.ErrRange},
	}
}

func TestErrorsOfTheState(t *testing.T) {
	for _, c := range stateChanges() {
		w := yardWater()
		c.do(&w)
		wantStateError(t, c.what, c.e, yard(), w)
	}
	for _, w := range []api.Water{
		{Minute: 0, Litres: levels(0, 0), Open: make([]bool, 4)},
		{Minute: 1000000, Litres: levels(500000, 500*70+900*90+600*50), Open: make([]bool, 4)},
	} {
		_, e := water.Levels(yard(), w)
		want(t, "the bounds", e, api.OK)
	}
}

// turnsOf are so many turns in one minute.
func turnsOf(n int) []api.Turn { return slices.Repeat([]api.Turn{{Minute: 9, Link: "Lift"}}, n) }

func TestErrorsOfTurns(t *testing.T) {
	for _, x := range []struct {
		what  string
		turns []api.Turn
		e     api.Errno
	}{
		{"many turns", turnsOf(201), api.ErrLarge},
		{"many turns before a wrong one", make([]api.Turn, 201), api.ErrLarge},
		{"an early turn", []api.Turn{{Minute: -1, Link: "Lift"}}, api.ErrRange},
		{"a late turn", []api.Turn{{Minute: 1000001, Link: "Lift"}}, api.ErrRange},
		{"the range before the order", append(turnsOf(1), api.Turn{Minute: -1, Link: "Lift"}), api.ErrRange},
		{"falling minutes of the first two", append(turnsOf(1), api.Turn{Minute: 8, Link: "Lift"}), api.ErrOrder},
		{"falling minutes", append(turnsOf(2), api.Turn{Minute: 8, Link: "Lift"}), api.ErrOrder},
		{"the order before the name", append(turnsOf(2), api.Turn{Minute: 8, Link: "Wet"}), api.ErrOrder},
		{"a basin instead of a link", []api.Turn{{Minute: 8, Link: "Wet"}}, api.ErrMissing},
		{"the empty name", append(turnsOf(1), api.Turn{Minute: 9}), api.ErrMissing},
		{"the name before the next minute", []api.Turn{{Minute: 9, Link: "?"}, {Minute: 8, Link: "Lift"}}, api.ErrMissing},
		{"the range before the name", []api.Turn{{Minute: 1000001, Link: "?"}}, api.ErrRange},
	} {
		wantTurnsError(t, x.what, x.e, yard(), yardWater(), x.turns)
	}
	for _, turns := range [][]api.Turn{nil, turnsOf(200), {{Minute: 0, Link: "Lift"}, {Minute: 1000000, Link: "Lift"}}} {
		_, e := water.Run(yard(), yardWater(), turns, 0)
		want(t, "the bounds", e, api.OK)
	}
}

// P5.4, but for Flow

func TestFillAndLevels(t *testing.T) {
	for _, l := range [][]int{{0, -500}, {3000, 1500}, {1500, 0}, {1, -499}, {1000, 900}} {
		w, e := water.Fill(yard(), 77, l)
		dock, _ := water.Volume(yard().Basins[0], l[0])
		wet, _ := water.Volume(yard().Basins[1], l[1])
		want(t, "Fill", []any{w, e}, []any{api.Water{Minute: 77, Litres: levels(dock, wet), Open: make([]bool, 4)}, api.OK})
		back, e := water.Levels(yard(), w)
		want(t, "Levels", []any{back, e}, []any{l, api.OK})
	}
	w := yardWater()
	w.Litres = levels(100199, 34999)
	l, e := water.Levels(yard(), w)
	want(t, "Levels", []any{l, e}, []any{levels(1000, -1), api.OK})
	for _, minute := range []int{0, 1000000} {
		w, e := water.Fill(api.Network{}, minute, nil)
		want(t, "no basins", []any{w, e}, []any{api.Water{Minute: minute}, api.OK})
		l, e := water.Levels(api.Network{}, w)
		want(t, "no basins", []any{l, e}, []any{levels(), api.OK})
	}
}

func TestFillErrors(t *testing.T) {
	for _, x := range []struct {
		what   string
		minute int
		levels []int
		e      api.Errno
	}{
		{"an early minute", -1, levels(0, 0), api.ErrRange},
		{"a late minute", 1000001, levels(0, 0), api.ErrRange},
		{"the minute before the shape", -1, nil, api.ErrRange},
		{"few levels", 0, levels(0), api.ErrShape},
		{"many levels", 0, levels(0, 0, 0), api.ErrShape},
		{"the shape before a level", 0, levels(-1), api.ErrShape},
		{"below the floor", 0, levels(-1, 0), api.ErrRange},
		{"above the rim", 0, levels(3001, 0), api.ErrRange},
		{"below the last floor", 0, levels(0, -501), api.ErrRange},
		{"above the last rim", 0, levels(0, 1501), api.ErrRange},
	} {
		w, e := water.Fill(yard(), x.minute, x.levels)
		wantError(t, x.what, x.e, e, w)
	}
}
