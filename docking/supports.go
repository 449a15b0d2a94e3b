package docking

import (
	"slices"

	"keelblock/api"
	"keelblock/common"
	"keelblock/exact"
	"keelblock/hull"
)

// Bottom returns the height of the bottom of a ship above the keel line.
func Bottom(s api.Ship, x, z int) (int, api.Errno) {
	if e := hull.Check(s); e != api.OK {
		return 0, e
	}
	if !common.IsPlace(x) || !common.Within(z, 0, widestZone) {
		return 0, api.ErrRange
	}
	level, found := bottom(s, x, z)
	if !found {
		return 0, api.ErrMissing
	}
	return level, api.OK
}

// Blocks returns the supports of the blocks.
func Blocks(d api.Docking) ([]api.Support, api.Errno) {
	p, e := planOf(d)
	return p.blocks, e
}

// Supports returns the supports of the blocks and those by the water at a level.
func Supports(d api.Docking, level api.Rat) ([]api.Support, api.Errno) {
	p, e := planOf(d)
	if e != api.OK {
		return nil, e
	}
	return p.supports(level), api.OK
}

// bottom is Bottom for a ship and a spot that are checked.
func bottom(s api.Ship, x, z int) (level int, found bool) {
	for _, t := range s.Stations {
		// strips do not overlap: at most one contains x
		if 2*x < 2*t.X-t.Width || 2*x >= 2*t.X+t.Width {
			continue
		}
		for k, h := range t.Halves {
			if h > z {
				return t.Levels[k], true
			}
		}
	}
	return 0, false
}

// A plan is a docking that is checked, with what is the same at all water levels.
type plan struct {
	docking       api.Docking
	loads         api.Centre
	blocks, water []api.Support // water at the level 0
}

func planOf(d api.Docking) (plan, api.Errno) {
	if e := Check(d); e != api.OK {
		return plan{}, e
	}
	p := plan{docking: d}
	p.loads, _ = hull.Loads(d.Ship)
	p.water, _ = hull.Supports(d.Ship, d.Density)
	for _, b := range d.Blocks {
		p.blocks = append(p.blocks, supportOf(d.Ship, b))
	}
	return p, api.OK
}

func supportOf(s api.Ship, b api.Block) api.Support {
	level, _ := bottom(s, b.X, b.Z)
	return api.Support{
		X:     b.X,
		C:     common.Whole(b.Height - level),
		Curve: api.Curve{Starts: []int{0}, Slopes: []api.Rat{common.Times(b.Stiff, pieces(b))}},
	}
}

// pieces returns how many blocks a block stands for.
func pieces(b api.Block) int {
	if b.Side {
		return 2
	}
	return 1
}

// supports returns the supports at a water level, first those of the blocks.
func (p plan) supports(level api.Rat) []api.Support {
	l := slices.Clone(p.blocks)
	for _, s := range p.water {
		s.C = common.Normal(level)
		l = append(l, s)
	}
	return l
}

// isClear reports whether the ship is above a block, and does not even touch it.
func (p plan) isClear(block int, a api.Attitude) bool {
	b := p.blocks[block]
	return common.Sign(exact.AddRat(b.C, hull.Immersion(a, b.X))) < 0
}
