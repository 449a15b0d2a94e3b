package berth_test

import (
	"fmt"
	"slices"
	"testing"

	"keelblock/api"
	"keelblock/berth"
)

// P1 and P2: what DOC.md's rules say of all functions.

// roomy copies a list into one that has room behind its end.
func roomy[T any](l []T) []T { return append(make([]T, 0, len(l)+9), l...) }

func TestResultsOfPlansAreNew(t *testing.T) {
	wide := changed(dock(), func(d *api.Dock) { d.Length, d.Width = 300, 100 })
	for _, d := range []api.Dock{dock(), wide, {}} {
		wantOwn(t, "CheckDocks", berth.CheckDocks, roomy([]api.Dock{d, wide}))
		for _, c := range [][]api.Call{nil, roomy(ships()), roomy(ships()[:2]), roomy(ships()[1:]), {{}}} {
			wantOwn(t, "CheckCalls", berth.CheckCalls, c)
			wantOwn(t, "Place", berth.Place, d, c)
			plan, _ := berth.Place(wide, c)
			slices.Reverse(plan)
			for _, s := range [][]api.Spot{nil, roomy(plan), {spot("a", 2, 2), spot("a", 2, 2)}} {
				wantOwn(t, "CheckPlan", berth.CheckPlan, d, c, s)
				wantOwn(t, "Blocks", berth.Blocks, d, c, s)
				wantOwn(t, "LeaveOrder", berth.LeaveOrder, d, c, s)
			}
		}
		for _, sea := range [][]api.Mark{nil, flat(99), roomy(flat(100)), roomy(tideOn(0, 3, 4))} {
			wantOwn(t, "Fits", berth.Fits, d, deep(100))
			wantOwn(t, "Passages", berth.Passages, d, deep(100), sea)
			wantOwn(t, "Days", berth.Days, d, deep(100), sea)
		}
	}
}

func TestResultsOfYardsAreNew(t *testing.T) {
	for _, c := range yardChanges() {
		y := yard()
		c.do(&y)
		y.Docks, y.Calls, y.Sea = roomy(y.Docks), roomy(y.Calls), roomy(y.Sea)
		wantOwn(t, "Best", berth.Best, y)
		for _, s := range [][]api.Stay{nil, roomy(stays(0, 4, 3)), stays(0, 3, 3), stays(2, 3, 3)} {
			wantOwn(t, "CheckStays", berth.CheckStays, y, s)
			wantOwn(t, "Cost", berth.Cost, y, s)
		}
	}
}

func TestResultsOfCranesAndLinesAreNew(t *testing.T) {
	for _, c := range [][]api.Crane{nil, roomy(cranes()), {{Mass: -1}}} {
		wantOwn(t, "CheckCranes", berth.CheckCranes, c)
		for _, l := range [][]api.Lift{nil, roomy(lifts()), {lift("a", 151)}, {{}}} {
			wantOwn(t, "CheckLifts", berth.CheckLifts, l)
			wantOwn(t, "Hoists", berth.Hoists, c, l)
			for _, by := range [][]string{nil, roomy([]string{"p", "q"}), {"q", "q"}, {"?"}} {
				wantOwn(t, "CheckHoists", berth.CheckHoists, c, l, by)
			}
		}
	}
	for _, l := range [][]api.Line{nil, roomy(opposite()), roomy(slack()), {{}}} {
		wantOwn(t, "CheckLines", berth.CheckLines, l)
		for _, x := range l {
			wantOwn(t, "Span", berth.Span, x)
		}
		for _, w := range []api.Wind{{}, {X: 500}, {X: 300, Y: -200, Turn: 3000000}, {Y: 10000}, {X: 1000000001}} {
			wantOwn(t, "Hold", berth.Hold, l, w)
			wantOwn(t, "Worst", berth.Worst, l, roomy([]api.Wind{{}, w}))
			m, _ := berth.Hold(l, w)
			for _, m := range []api.Mooring{{}, {Holds: true}, m, {Holds: true, Parts: make([]api.Rat, 2)}, proof("0", "-1", "0")} {
				m.Parts, m.Proof = roomy(m.Parts), roomy(m.Proof)
				wantOwn(t, "CheckMooring", berth.CheckMooring, l, w, m)
			}
		}
	}
}

// A search through as many ships, docks and days as there may be, where the two ships that are in
// the way of each other come last, and those before them are free everywhere.
func TestTheLongestSearches(t *testing.T) {
	y := api.Yard{Sea: tideOn(days(0, 60)...), Last: 60}
	for i := range 4 {
		y.Docks = append(y.Docks, api.Dock{Name: fmt.Sprint("D", i), Length: 5 + i/3, Width: 9})
		c := deep(100)
		c.Name, c.Length, c.Work = fmt.Sprint("S", i), 5, 1
		if i > 1 {
			c.Length, c.Work, c.Late = 6, 30, 1
		}
		y.Calls = append(y.Calls, c)
	}
	l, cost, e := berth.Best(y)
	want(t, "the stays", []any{l, cost, e}, []any{[]api.Stay{stay("S0", "D0", 0), stay("S1", "D0", 1), stay("S2", "D3", 0), stay("S3", "D3", 30)}, 90, api.OK})
	y.Calls[3].Work = 31
	l, cost, e = berth.Best(y)
	wantError(t, "no stays", api.ErrNone, e, l, cost)

	// of these four, three fit in each direction
	d := api.Dock{Name: "D", Length: 1000000, Width: 1000000, Gap: 1000}
	var c []api.Call
	for i := range 4 {
		c = append(c, ship(fmt.Sprint("S", i), 300000+1000*i, 500000+2000*i))
	}
	s, e := berth.Place(d, c)
	wantError(t, "no plan", api.ErrNone, e, s)
}
