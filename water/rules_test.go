package water_test

import (
	"testing"

	"keelblock/api"
	"keelblock/water"
)

// P1 and P2: what DOC.md's rules say of all functions.

// roomy copies a list into one that has room behind its end.
func roomy[T any](l []T) []T { return append(make([]T, 0, len(l)+9), l...) }

// spacious is a yard whose lists have room behind their ends.
func spacious() api.Network {
	n := yard()
	n.Basins, n.Sea, n.Links = roomy(n.Basins), roomy(n.Sea), roomy(n.Links)
	for i, b := range n.Basins {
		n.Basins[i].Areas = roomy(b.Areas)
	}
	return n
}

func spaciousDock() api.Pontoon {
	p := floatingDock()
	p.Masses, p.Tanks = roomy(p.Masses), roomy(p.Tanks)
	return p
}

func TestResultsOfNetworksAreNew(t *testing.T) {
	for _, n := range []api.Network{{}, spacious(), changedNetwork(rateChanges()[0])} {
		wantOwn(t, "CheckNetwork", water.CheckNetwork, n)
		wantOwn(t, "CheckSea", water.CheckSea, n.Sea)
		wantOwn(t, "HighWaters", water.HighWaters, n.Sea)
		for _, b := range n.Basins {
			wantOwn(t, "CheckBasin", water.CheckBasin, b)
		}
		for _, level := range []int{-1000, 0, 200, 1500, 1700, 9000} {
			wantOwn(t, "Tide", water.Tide, n.Sea, level)
			wantOwn(t, "Above", water.Above, n.Sea, level, 20, 200)
			wantOwn(t, "Volume", water.Volume, stepped(), level)
			wantOwn(t, "Level", water.Level, stepped(), level)
			wantOwn(t, "Fill", water.Fill, n, level, roomy(levels(level, level)))
		}
		w := yardWater()
		w.Litres, w.Open = roomy(w.Litres), roomy(w.Open)
		for _, w := range []api.Water{w, {}, {Minute: 1000000, Litres: w.Litres, Open: w.Open}} {
			wantOwn(t, "Levels", water.Levels, n, w)
			wantOwn(t, "Step", water.Step, n, w)
			for _, name := range []string{"Flood", "Cross", "Drain", "Lift", ""} {
				wantOwn(t, "Flow", water.Flow, n, w, name)
			}
			for _, turns := range [][]api.Turn{nil, roomy(yardTurns()), {{Link: "?"}}} {
				for _, minutes := range []int{-1, 0, 1, 300} {
					wantOwn(t, "Run", water.Run, n, w, turns, minutes)
					wantOwn(t, "Course", water.Course, n, w, turns, api.CourseOf{Basin: "Wet", Every: 7, Count: minutes})
					wantOwn(t, "Until", water.Until, n, w, turns, api.Target{Basin: "Dock", Level: 1000, Within: minutes, Rising: true})
				}
			}
		}
	}
}

func TestResultsOfFloatingDocksAreNew(t *testing.T) {
	for _, p := range []api.Pontoon{{}, spaciousDock(), sized(), sized(3, 4, 6, 10, 12)} {
		wantOwn(t, "CheckPontoon", water.CheckPontoon, p)
		for _, l := range []api.Limits{wide(), trimmed(3), trimmed(2), {}, {TrimMost: -1}} {
			wantOwn(t, "Conflict", water.Conflict, p, l)
			for _, start := range [][]int{nil, roomy(steps(0, 0)), steps(2, 3), steps(9, 9), make([]int, 5)} {
				wantOwn(t, "Float", water.Float, p, start)
				wantOwn(t, "Broken", water.Broken, p, l, start)
				a := aim(1200, 1300, start...)
				wantOwn(t, "Ballast", water.Ballast, p, l, a)
				wantOwn(t, "CheckBallast", water.CheckBallast, p, l, a, roomy(moves(fill(0), fill(1), fill(0))))
			}
		}
	}
}
