package docking

import (
	"slices"

	"keelblock/api"
	"keelblock/common"
	"keelblock/exact"
	"keelblock/floating"
	"keelblock/hull"
)

// farthest is how far from 0 a level of a course may be.
const farthest = 100000

// At returns the standing at a water level.
func At(d api.Docking, level api.Rat) (api.Docked, api.Errno) {
	p, e := planOf(d)
	if e != api.OK {
		return api.Docked{}, e
	}
	return p.at(level)
}

// Follow returns the standings at the levels of a course.
func Follow(d api.Docking, course []int) ([]api.Docked, api.Errno) {
	p, e := planFor(d, course)
	if e != api.OK {
		return nil, e
	}
	standings := make([]api.Docked, 0, len(course))
	for _, w := range course {
		if e := levelError(w); e != api.OK {
			return nil, e
		}
		s, e := p.at(common.Whole(w))
		if e != api.OK {
			return nil, e
		}
		standings = append(standings, s)
	}
	return standings, api.OK
}

// Touch returns the greatest water level at which the floating ship just touches a block.
func Touch(d api.Docking) (api.Rat, api.Errno) {
	p, e := planOf(d)
	if e != api.OK {
		return api.Rat{}, e
	}
	if len(p.blocks) == 0 {
		return api.Rat{}, api.ErrNone
	}
	s, _, e := floating.Float(d.Ship, d.Density)
	if e != api.OK {
		return api.Rat{}, e
	}
	// the blocks are checked, so that there is no error
	levels, _ := floating.Immersions(p.blocks, s.Attitude)
	return slices.MaxFunc(levels, exact.CmpRat), api.OK
}

// Lift returns the number of the level from which on the ship stays afloat.
func Lift(d api.Docking, course []int) (int, api.Errno) {
	standings, e := Follow(d, course)
	if e != api.OK {
		return 0, e
	}
	first := len(standings)
	for first > 0 && standings[first-1].Phase == api.PAfloat {
		first--
	}
	if first == len(standings) {
		return 0, api.ErrNone
	}
	return first, api.OK
}

// planFor is planOf for a docking that is to follow a course.
func planFor(d api.Docking, course []int) (plan, api.Errno) {
	p, e := planOf(d)
	if e != api.OK {
		return plan{}, e
	}
	if len(course) > api.MaxCourse {
		return plan{}, api.ErrLarge
	}
	return p, api.OK
}

func levelError(w int) api.Errno {
	if !common.Within(w, -farthest, farthest) {
		return api.ErrRange
	}
	return api.OK
}

// A carrier is made for a water level, and tells what a block carries there.
type carrier func(block int) api.Rat

// settle returns the attitude at a water level, and the carrier for it.
func (p plan) settle(level api.Rat) (api.Attitude, carrier, api.Errno) {
	body := api.Body{Weight: p.loads.Mass, At: p.loads.X, Supports: p.supports(level)}
	s, _, e := floating.Solve(body)
	// the blocks are the first of the supports
	carries := func(block int) api.Rat { return s.Forces[block] }
	return s.Attitude, carries, e
}

func (p plan) at(level api.Rat) (api.Docked, api.Errno) {
	attitude, carries, e := p.settle(level)
	if e != api.OK {
		return api.Docked{}, e
	}
	s := api.Docked{Level: common.Normal(level), Attitude: attitude}
	var loaded []api.Block
	for i, b := range p.docking.Blocks {
		load := carries(i)
		s.Loads = append(s.Loads, load)
		if common.Sign(load) != 0 {
			loaded = append(loaded, b)
		}
	}
	s.Upthrust = common.Sum(s.Loads)
	// what the blocks do not carry of the ship, the water does
	s.Buoyancy = exact.SubRat(common.Whole(p.loads.Mass), s.Upthrust)
	s.Held = slices.ContainsFunc(loaded, func(b api.Block) bool { return b.Side })
	s.Phase = phaseOf(loaded, s.Buoyancy)
	if common.Sign(s.Buoyancy) != 0 {
		// there is water under the ship, and the blocks do not carry all of it: no error
		s.Stable, _ = hull.Stability(p.docking.Ship, inWater(s), api.Raised{Density: p.docking.Density, Upthrust: s.Upthrust})
	}
	return s, api.OK
}

// inWater returns the attitude to the surface of the water.
func inWater(s api.Docked) api.Attitude {
	return api.Attitude{Sink: exact.AddRat(s.Attitude.Sink, s.Level), Slope: s.Attitude.Slope}
}

func phaseOf(loaded []api.Block, buoyancy api.Rat) int {
	if len(loaded) == 0 {
		return api.PAfloat
	}
	if !slices.ContainsFunc(loaded, func(b api.Block) bool { return b.X != loaded[0].X }) {
		return api.PTouching
	}
	if common.Sign(buoyancy) == 0 {
		return api.PDry
	}
	return api.PLanded
}
