package berth_test

import (
	"fmt"
	"math/rand"
	"testing"

	"keelblock/api"
	"keelblock/berth"
)

// dock is that of the chapter's first example.
func dock() api.Dock { return api.Dock{Name: "Dock", Length: 200, Width: 40, Gap: 2} }

func ship(name string, length, beam int) api.Call {
	return api.Call{Name: name, Length: length, Beam: beam, Work: 1}
}

// P6.1

// A numberOf sets a number of a thing, which may be from least to most.
type numberOf[T any] struct {
	what        string
	least, most int
	set         func(x *T, n int)
}

func dockNumbers() []numberOf[api.Dock] {
	return []numberOf[api.Dock]{
		{"Length", 1, 1000000, func(d *api.Dock, n int) { d.Length = n }},
		{"Width", 1, 1000000, func(d *api.Dock, n int) { d.Width = n }},
		{"Sill", -1000000, 1000000, func(d *api.Dock, n int) { d.Sill = n }},
		{"Floor", -1000000, 1000000, func(d *api.Dock, n int) { d.Floor = n }},
		{"Gap", 0, 1000000, func(d *api.Dock, n int) { d.Gap = n }},
	}
}

func callNumbers() []numberOf[api.Call] {
	return []numberOf[api.Call]{
		{"Length", 1, 1000000, func(c *api.Call, n int) { c.Length = n }},
		{"Beam", 1, 1000000, func(c *api.Call, n int) { c.Beam = n }},
		{"Draught", 0, 1000000, func(c *api.Call, n int) { c.Draught = n }},
		{"Under", 0, 1000000, func(c *api.Call, n int) { c.Under = n }},
		{"Arrive", 0, 400, func(c *api.Call, n int) { c.Arrive = n }},
		{"Due", 0, 400, func(c *api.Call, n int) { c.Due = n }},
		{"Work", 1, 1000, func(c *api.Call, n int) { c.Work = n }},
		{"Late", 0, 1000000000, func(c *api.Call, n int) { c.Late = n }},
	}
}

// wantNumbers demands the bounds of all numbers of the last one of a list of things.
func wantNumbers[T any](t *testing.T, first, last T, numbers []numberOf[T], check func([]T) api.Errno) {
	t.Helper()
	for _, x := range numbers {
		wantBounds(t, x.what, x.least, x.most, func(n int) api.Errno {
			return check([]T{first, changed(last, func(y *T) { x.set(y, n) })})
		})
	}
}

func TestCheckDocks(t *testing.T) {
	named := func(name string) api.Dock { return changed(dock(), func(d *api.Dock) { d.Name = name }) }
	wrong := func(name string) api.Dock { return changed(named(name), func(d *api.Dock) { d.Length = 0 }) }
	wantListErrors(t, berth.CheckDocks, 4, named, wrong, api.ErrRange)
	wantNumbers(t, named("Other"), dock(), dockNumbers(), berth.CheckDocks)
}

func TestCheckCalls(t *testing.T) {
	named := func(name string) api.Call { return ship(name, 3, 2) }
	wrong := func(name string) api.Call { return ship(name, 3, 0) }
	wantListErrors(t, berth.CheckCalls, 8, named, wrong, api.ErrRange)
	wantNumbers(t, named("Other"), named("Last"), callNumbers(), berth.CheckCalls)
}

func TestFits(t *testing.T) {
	for _, x := range []struct {
		length, beam, gap int
		wanted            bool
	}{
		{196, 36, 2, true}, {197, 36, 2, false}, {196, 37, 2, false}, {197, 37, 2, false},
		{200, 40, 0, true}, {201, 40, 0, false}, {200, 41, 0, false}, {1, 1, 19, true}, {2, 2, 19, true}, {2, 3, 19, false}, {1, 1, 20, false},
		{40, 200, 0, false}, {1, 1, 1000000, false}, {1000000, 1, 0, false},
	} {
		d := dock()
		d.Gap = x.gap
		got, e := berth.Fits(d, ship("A", x.length, x.beam))
		want(t, fmt.Sprint(x), []any{got, e}, []any{x.wanted, api.OK})
	}
}

// A wrongPair is a dock and ships of which one is wrong, or both.
type wrongPair struct {
	what string
	d    api.Dock
	c    []api.Call
	e    api.Errno
}

// wrongSingles have one ship, wrongLists more.
func wrongSingles() []wrongPair {
	bad := func(do func(d *api.Dock)) api.Dock { return changed(dock(), do) }
	return []wrongPair{
		{"the name of the dock", bad(func(d *api.Dock) { d.Name = "" }), once(ship("A", 3, 2)), api.ErrName},
		{"the name of the dock before its size", bad(func(d *api.Dock) { d.Name, d.Width = "?", 0 }), once(ship("A", 3, 2)), api.ErrName},
		{"the size of the dock", bad(func(d *api.Dock) { d.Width = 0 }), once(ship("A", 3, 2)), api.ErrRange},
		{"the dock before the ship", bad(func(d *api.Dock) { d.Gap = -1 }), once(ship("", 3, 2)), api.ErrRange},
		{"the name of the dock before the ship", bad(func(d *api.Dock) { d.Name = "-" }), once(ship("A", 0, 2)), api.ErrName},
		{"the name of the ship", dock(), once(ship("Abcdefghijklm", 3, 2)), api.ErrName},
		{"the size of the ship", dock(), once(ship("A", 3, 1000001)), api.ErrRange},
	}
}

func wrongLists() []wrongPair {
	var many []api.Call
	for i := range 9 {
		many = append(many, ship(fmt.Sprint("S", i), 3, 2))
	}
	return append(wrongSingles(), []wrongPair{
		{"many ships", dock(), many, api.ErrLarge},
		{"a ship twice", dock(), []api.Call{ship("A", 3, 2), ship("A", 3, 2)}, api.ErrExists},
		{"the second ship", dock(), []api.Call{ship("A", 3, 2), ship("B", -3, 2)}, api.ErrRange},
	}...)
}

// The errors of docks and ships come before all others.
func TestErrorsOfADockAndAShipComeFirst(t *testing.T) {
	for _, x := range wrongSingles() {
		fit, e := berth.Fits(x.d, x.c[0])
		wantError(t, "Fits with "+x.what, x.e, e, fit)
		for _, sea := range [][]api.Mark{nil, flat(1000), {{Minute: -1}}, make([]api.Mark, 401)} {
			times, e := berth.Passages(x.d, x.c[0], sea)
			wantError(t, "Passages with "+x.what, x.e, e, times)
			days, e := berth.Days(x.d, x.c[0], sea)
			wantError(t, "Days with "+x.what, x.e, e, days)
		}
	}
	for _, x := range wrongLists() {
		for _, s := range [][]api.Spot{nil, {{Call: "A", X: 2, Y: 2}}, {{Call: "?", X: -1}}} {
			want(t, "CheckPlan with "+x.what, berth.CheckPlan(x.d, x.c, s), x.e)
			pairs, e := berth.Blocks(x.d, x.c, s)
			wantError(t, "Blocks with "+x.what, x.e, e, pairs)
			names, e := berth.LeaveOrder(x.d, x.c, s)
			wantError(t, "LeaveOrder with "+x.what, x.e, e, names)
		}
		spots, e := berth.Place(x.d, x.c)
		wantError(t, "Place with "+x.what, x.e, e, spots)
	}
}

func TestFitsIsAboutTheOnlyPlan(t *testing.T) {
	r := rand.New(rand.NewSource(11))
	count := map[bool]int{}
	for range 2000 {
		d := api.Dock{Name: "D", Length: between(r, 4, 14), Width: between(r, 4, 14), Gap: r.Intn(4)}
		c := ship("A", between(r, 1, 10), between(r, 1, 10))
		fit, e := berth.Fits(d, c)
		right := berth.CheckPlan(d, once(c), once(api.Spot{Call: "A", X: d.Gap, Y: d.Gap})) == api.OK
		want(t, fmt.Sprint(d, c), []any{fit, e}, []any{right, api.OK})
		count[fit]++
	}
	if count[true] < 300 || count[false] < 300 {
		t.Error(count)
	}
}
