package hull_test

import (
	"testing"

	"keelblock/api"
	"keelblock/hull"
)

// P1 and P2: what DOC.md's rules say of all functions.

// spacious is a ship whose lists have room behind their ends.
func spacious() api.Ship {
	s := tug()
	s.Stations = append(make([]api.Station, 0, 20), s.Stations...)
	for i, c := range s.Stations {
		s.Stations[i].Levels = append(make([]int, 0, 20), c.Levels...)
		s.Stations[i].Halves = append(make([]int, 0, 20), c.Halves...)
	}
	s.Items = append(make([]api.Load, 0, 20), s.Items...)
	return s
}

func attitudes() []api.Attitude {
	return []api.Attitude{
		{}, at("800", "0"), at("1001/2", "-1/30"), oddAt(at("900", "1/200")), at("900", "0"), at("50000", "0"),
		oddAt(at("-7", "0")), at("0", "1"),
	}
}

func TestResultsAreNew(t *testing.T) {
	for _, s := range []api.Ship{barge(), spacious(), {}} {
		wantOwn(t, "Check", hull.Check, s)
		wantOwn(t, "Print", hull.Print, s)
		wantOwn(t, "Table", hull.Table, s, []int{800, 800, 2900}, 1000)
		wantOwn(t, "Draught", hull.Draught, s, 1000, 1000)
		wantOwn(t, "Loads", hull.Loads, s)
		wantOwn(t, "With", hull.With, s, api.Load{Name: "More"})
		wantOwn(t, "With", hull.With, s, api.Load{Name: "Oil"})
		wantOwn(t, "Supports", hull.Supports, s, 1000)
		for _, name := range []string{"Oil", "Fuel", "Mark", "Light"} {
			wantOwn(t, "Without", hull.Without, s, name)
			wantOwn(t, "Move", hull.Move, s, name, 5, 6)
			wantOwn(t, "Move", hull.Move, s, name, 5, 600000)
		}
		for _, a := range attitudes() {
			wantOwn(t, "Hydrostatics", hull.Hydrostatics, s, a, 1000)
			wantOwn(t, "Draughts", hull.Draughts, s, a)
			wantOwn(t, "Strength", hull.Strength, s, a, 1000)
			for _, u := range []api.Rat{{}, num("5"), odd(num("5/3")), num("-1")} {
				wantOwn(t, "Stability", hull.Stability, s, a, api.Raised{Density: 1000, Upthrust: u})
			}
			shifts := []api.Shift{{Mass: 5, Distance: 6, Deflection: 7}, {}}
			wantOwn(t, "Experiment", hull.Experiment, api.Incline{Ship: s, Attitude: a, Density: 1000, Pendulum: 1, Shifts: shifts})
		}
	}
	for _, a := range attitudes() {
		wantOwn(t, "Immersion", hull.Immersion, a, 0)
		wantOwn(t, "Immersion", hull.Immersion, a, 30)
		for _, c := range spacious().Stations {
			wantOwn(t, "Area", hull.Area, c, a.Sink)
			wantOwn(t, "Half", hull.Half, c, a.Sink)
		}
	}
	wantOwn(t, "Survey", hull.Survey, api.Marks{X: [3]int{1, 2, 3}, Port: [3]int{5, 7, 8}})
	wantOwn(t, "Survey", hull.Survey, api.Marks{X: [3]int{1, 2, 3}})
	wantOwn(t, "Parse", hull.Parse, tugText)
}

// What is done to a result has no effect on its argument, nor on the next call.
func TestResultsMayBeOverwritten(t *testing.T) {
	s := spacious()
	for _, change := range []func() (api.Ship, api.Errno){
		func() (api.Ship, api.Errno) { return hull.With(s, api.Load{Name: "More"}) },
		func() (api.Ship, api.Errno) { return hull.Without(s, "Crane") },
		func() (api.Ship, api.Errno) { return hull.Move(s, "Crane", 1, 1) },
	} {
		out, e := change()
		before, _ := change()
		want(t, "the error", e, api.OK)
		out.Stations[0].Levels[0], out.Stations[1].Halves[0], out.Stations[2].X = 7, 7, 7
		out.Items[0] = api.Load{}
		out.Items = append(out.Items[:1], api.Load{Name: "Other"})
		want(t, "the argument", s, tug())
		again, _ := change()
		want(t, "the next call", again, before)
	}
	l, _ := hull.Supports(s, 1000)
	for i := range l {
		l[i].Curve.Starts[0], l[i].Curve.Slopes[0], l[i].C.Den.Limbs[0] = 7, api.Rat{}, 7
	}
	want(t, "the argument", s, tug())
	h, _ := hull.Hydrostatics(s, at("900", "0"), 1000)
	h.Float.Den.Limbs[0], h.Cross.Den.Limbs[0] = 7, 7
	again, _ := hull.Hydrostatics(tug(), at("900", "0"), 1000)
	wanted, _ := secondHydro(t, tug(), at("900", "0"), 1000)
	want(t, "the next call", again, wanted)
}
