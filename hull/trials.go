package hull

import (
	"keelblock/api"
	"keelblock/exact"
)

const (
	longest     = 100000    // a pendulum, a distance, a deflection
	mostShifted = 100000000 // a mass that is shifted
	mostShifts  = 40
	metre       = 1000 // free surface moments are in kg m, all others in kg mm
)

// Stability returns the metacentric height with an upthrust.
func Stability(s api.Ship, a api.Attitude, w api.Raised) (api.Stable, api.Errno) {
	h, e := Hydrostatics(s, a, w.Density)
	if e != api.OK {
		return api.Stable{}, e
	}
	c := total(s)
	mass := whole(c.Mass)
	left := exact.SubRat(mass, w.Upthrust)
	if sign(w.Upthrust) < 0 || sign(left) <= 0 {
		return api.Stable{}, api.ErrLimit
	}
	moment := exact.MulRat(left, h.Meta)
	moment = exact.SubRat(moment, exact.MulRat(mass, c.Z))
	moment = exact.SubRat(moment, whole(metre*c.Free))
	return api.Stable{KM: h.Meta, KG: c.Z, GM: over(moment, mass), Other: over(moment, left)}, api.OK
}

// Experiment returns the result of an inclining experiment.
func Experiment(t api.Incline) (api.Stable, api.Errno) {
	h, e := Hydrostatics(t.Ship, t.Attitude, t.Density)
	if e != api.OK {
		return api.Stable{}, e
	}
	if e := shiftsError(t); e != api.OK {
		return api.Stable{}, e
	}
	moment, squares := api.Rat{}, 0
	for _, x := range t.Shifts {
		moment = exact.AddRat(moment, product(x.Mass, x.Distance, x.Deflection))
		squares += x.Deflection * x.Deflection
	}
	if squares == 0 {
		return api.Stable{}, api.ErrZero
	}
	gm := over(times(moment, t.Pendulum), times(h.Displacement, squares))
	free := over(whole(metre*total(t.Ship).Free), h.Displacement)
	other := exact.AddRat(gm, free)
	return api.Stable{KM: h.Meta, KG: exact.SubRat(h.Meta, other), GM: gm, Other: other}, api.OK
}

func shiftsError(t api.Incline) api.Errno {
	if !within(t.Pendulum, 1, longest) {
		return api.ErrRange
	}
	if len(t.Shifts) > mostShifts {
		return api.ErrLarge
	}
	for _, x := range t.Shifts {
		if !within(x.Mass, 0, mostShifted) || !within(x.Distance, -longest, longest) || !within(x.Deflection, -longest, longest) {
			return api.ErrRange
		}
	}
	return api.OK
}

// Survey returns the attitude and the deflection of the keel that draught marks tell.
func Survey(m api.Marks) (api.Attitude, api.Rat, api.Errno) {
	if e := marksError(m); e != api.OK {
		return api.Attitude{}, api.Rat{}, e
	}
	aft, middle, fore := mean(m, 0), mean(m, 1), mean(m, 2)
	slope := over(exact.SubRat(fore, aft), whole(m.X[2]-m.X[0]))
	line := api.Attitude{Sink: exact.SubRat(aft, times(slope, m.X[0])), Slope: slope}
	bend := exact.SubRat(middle, Immersion(line, m.X[1]))
	line.Sink = exact.AddRat(line.Sink, exact.MulRat(bend, ratio(3, 4)))
	return line, bend, api.OK
}

func marksError(m api.Marks) api.Errno {
	for i := range m.X {
		if !isPlace(m.X[i]) || !isPlace(m.Port[i]) || !isPlace(m.Starboard[i]) {
			return api.ErrRange
		}
	}
	if m.X[0] >= m.X[1] || m.X[1] >= m.X[2] {
		return api.ErrOrder
	}
	return api.OK
}

// mean returns the mean reading of both sides.
func mean(m api.Marks, i int) api.Rat { return ratio(m.Port[i]+m.Starboard[i], 2) }

// Draughts returns the heights of the water aft, amidships and forward.
func Draughts(s api.Ship, a api.Attitude) ([3]api.Rat, api.Errno) {
	if e := Check(s); e != api.OK {
		return [3]api.Rat{}, e
	}
	middle := heightAt(a, ratio(s.Length, 2))
	return [3]api.Rat{Immersion(a, 0), middle, Immersion(a, s.Length)}, api.OK
}
