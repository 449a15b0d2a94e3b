package hull

import (
	"keelblock/api"
	"keelblock/common"
	"keelblock/exact"
)

const (
	longest     = 100000    // a pendulum, a distance, a deflection
	mostShifted = 100000000 // a mass that is shifted
	mostShifts  = 40
	metre       = 1000 // free surface moments are in kg m, all others in kg mm
)

// Stability returns the metacentric height with an upthrust.
func Stability(s api.Ship, a api.Attitude, w api.Raised) (api.Stable, api.Errno) {
	h, e := Hydrostatics(s, a, w.Density)
	if e != api.OK {
		return api.Stable{}, e
	}
	c := total(s)
	mass := common.Whole(c.Mass)
	left := exact.SubRat(mass, w.Upthrust)
	if common.Sign(w.Upthrust) < 0 || common.Sign(left) <= 0 {
		return api.Stable{}, api.ErrLimit
	}
	moment := exact.MulRat(left, h.Meta)
	moment = exact.SubRat(moment, exact.MulRat(mass, c.Z))
	moment = exact.SubRat(moment, common.Whole(metre*c.Free))
	return api.Stable{KM: h.Meta, KG: c.Z, GM: common.Over(moment, mass), Other: common.Over(moment, left)}, api.OK
}

// Experiment returns the result of an inclining experiment.
func Experiment(t api.Incline) (api.Stable, api.Errno) {
	h, e := Hydrostatics(t.Ship, t.Attitude, t.Density)
	if e != api.OK {
		return api.Stable{}, e
	}
	if e := shiftsError(t); e != api.OK {
		return api.Stable{}, e
	}
	moment, squares := api.Rat{}, 0
	for _, x := range t.Shifts {
		moment = exact.AddRat(moment, common.Product(x.Mass, x.Distance, x.Deflection))
		squares += x.Deflection * x.Deflection
	}
	if squares == 0 {
		return api.Stable{}, api.ErrZero
	}
	gm := common.Over(common.Times(moment, t.Pendulum), common.Times(h.Displacement, squares))
	free := common.Over(common.Whole(metre*total(t.Ship).Free), h.Displacement)
	other := exact.AddRat(gm, free)
	return api.Stable{KM: h.Meta, KG: exact.SubRat(h.Meta, other), GM: gm, Other: other}, api.OK
}

func shiftsError(t api.Incline) api.Errno {
	if !common.Within(t.Pendulum, 1, longest) {
		return api.ErrRange
	}
	if len(t.Shifts) > mostShifts {
		return api.ErrLarge
	}
	for _, x := range t.Shifts {
		if !common.Within(x.Mass, 0, mostShifted) || !common.Within(x.Distance, -longest, longest) || !common.Within(x.Deflection, -longest, longest) {
			return api.ErrRange
		}
	}
	return api.OK
}

// Survey returns the attitude and the deflection of the keel that draught marks tell.
func Survey(m api.Marks) (api.Attitude, api.Rat, api.Errno) {
	if e := marksError(m); e != api.OK {
		return api.Attitude{}, api.Rat{}, e
	}
	aft, middle, fore := mean(m, 0), mean(m, 1), mean(m, 2)
	slope := common.Over(exact.SubRat(fore, aft), common.Whole(m.X[2]-m.X[0]))
	line := api.Attitude{Sink: exact.SubRat(aft, common.Times(slope, m.X[0])), Slope: slope}
	bend := exact.SubRat(middle, Immersion(line, m.X[1]))
	line.Sink = exact.AddRat(line.Sink, exact.MulRat(bend, common.Ratio(3, 4)))
	return line, bend, api.OK
}

func marksError(m api.Marks) api.Errno {
	for i := range m.X {
		if !common.IsPlace(m.X[i]) || !common.IsPlace(m.Port[i]) || !common.IsPlace(m.Starboard[i]) {
			return api.ErrRange
		}
	}
	if m.X[0] >= m.X[1] || m.X[1] >= m.X[2] {
		return api.ErrOrder
	}
	return api.OK
}

// mean returns the mean reading of both sides.
func mean(m api.Marks, i int) api.Rat { return common.Ratio(m.Port[i]+m.Starboard[i], 2) }

// Draughts returns the heights of the water aft, amidships and forward.
func Draughts(s api.Ship, a api.Attitude) ([3]api.Rat, api.Errno) {
	if e := Check(s); e != api.OK {
		return [3]api.Rat{}, e
	}
	middle := heightAt(a, common.Ratio(s.Length, 2))
	return [3]api.Rat{Immersion(a, 0), middle, Immersion(a, s.Length)}, api.OK
}
