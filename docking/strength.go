package docking

import (
	"slices"

	"keelblock/api"
	"keelblock/common"
	"keelblock/exact"
	"keelblock/hull"
)

// Strength returns the shear forces and the bending moments along the ship as it stands.
func Strength(d api.Docking, level api.Rat) ([]api.Force, api.Errno) {
	p, e := planOf(d)
	if e != api.OK {
		return nil, e
	}
	s, e := p.at(level)
	if e != api.OK {
		return nil, e
	}
	// the ship and its density are checked, so that there is no error
	l, _ := hull.Strength(d.Ship, inWater(s), d.Density)
	lifts := liftsOf(l)
	for i, b := range d.Blocks {
		lifts[b.X] = exact.AddRat(lifts[b.X], s.Loads[i])
	}
	return forcesOf(lifts), api.OK
}

// liftsOf returns what lifts the ship at each place, from the shear forces.
func liftsOf(l []api.Force) map[int]api.Rat {
	lifts := map[int]api.Rat{}
	var before api.Rat
	for _, f := range l {
		lifts[f.X] = exact.SubRat(f.Shear, before)
		before = f.Shear
	}
	return lifts
}

func forcesOf(lifts map[int]api.Rat) []api.Force {
	places := make([]int, 0, len(lifts))
	for x := range lifts {
		places = append(places, x)
	}
	// a map has no order
	slices.Sort(places)
	var l []api.Force
	var shear, moment api.Rat
	before := 0
	for _, x := range places {
		// the shear force before the first place is 0
		moment = exact.AddRat(moment, common.Times(shear, x-before))
		shear = exact.AddRat(shear, lifts[x])
		l = append(l, api.Force{X: x, Shear: shear, Moment: moment})
		before = x
	}
	return l
}
