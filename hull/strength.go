package hull

import (
	"slices"

	"keelblock/api"
	"keelblock/common"
	"keelblock/exact"
)

// Strength returns the shear forces and the bending moments along a ship.
func Strength(s api.Ship, a api.Attitude, density int) ([]api.Force, api.Errno) {
	if e := common.FirstError(Check(s), densityError(density)); e != api.OK {
		return nil, e
	}
	lifts := liftsOf(s, a, density)
	var places []int
	for x := range lifts {
		places = append(places, x)
	}
	// a map has no order
	slices.Sort(places)
	var out []api.Force
	var shear, moment api.Rat
	before := places[0]
	for _, x := range places {
		moment = exact.AddRat(moment, common.Times(shear, x-before))
		shear = exact.AddRat(shear, lifts[x])
		out = append(out, api.Force{X: x, Shear: shear, Moment: moment})
		before = x
	}
	return out, api.OK
}

// liftsOf returns for each place what the water carries there less the masses there.
func liftsOf(s api.Ship, a api.Attitude, density int) map[int]api.Rat {
	lifts := map[int]api.Rat{}
	for _, t := range s.Stations {
		lifts[t.X] = displacement(t, Immersion(a, t.X), density)
	}
	for _, l := range allLoads(s) {
		lifts[l.X] = exact.SubRat(lifts[l.X], common.Whole(l.Mass))
	}
	return lifts
}
