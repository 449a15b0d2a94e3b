package docking

import (
	"slices"

	"keelblock/api"
	"keelblock/common"
	"keelblock/hull"
)

// longestStep is the greatest distance of the blocks of a pattern.
const longestStep = 100000

// Lay returns the docking with those blocks of a pattern that fit.
func Lay(d api.Docking, p api.Pattern) (api.Docking, api.Errno) {
	if e := Check(d); e != api.OK {
		return api.Docking{}, e
	}
	if !common.Within(p.Count, 0, api.MaxBlocks) || !common.Within(p.Step, 1, longestStep) {
		return api.Docking{}, api.ErrRange
	}
	out := duplicate(d)
	for i := range p.Count {
		b := copyBlock(p.Block)
		b.X += i * p.Step
		longer := out
		longer.Blocks = append(out.Blocks, b)
		if Check(longer) == api.OK {
			out = longer
		}
	}
	return out, api.OK
}

// Drop returns the docking without a block.
func Drop(d api.Docking, i int) (api.Docking, api.Errno) {
	if e := Check(d); e != api.OK {
		return api.Docking{}, e
	}
	if !common.Within(i, 0, len(d.Blocks)-1) {
		return api.Docking{}, api.ErrMissing
	}
	out := duplicate(d)
	out.Blocks = slices.Delete(out.Blocks, i, i+1)
	return out, api.OK
}

// Spare returns the numbers of the blocks that a docking does not need on a course.
func Spare(d api.Docking, course []int) ([]int, api.Errno) {
	p, e := planFor(d, course)
	if e != api.OK {
		return nil, e
	}
	pressed := make([][]int, len(d.Blocks))
	for _, w := range course {
		failures, s, e := p.judgeLevel(w)
		if e != api.OK {
			return nil, e
		}
		if len(failures) > 0 {
			return nil, api.ErrState
		}
		for i := range d.Blocks {
			if !p.isClear(i, s.Attitude) {
				pressed[i] = append(pressed[i], w)
			}
		}
	}
	var spare []int
	for i := range d.Blocks {
		if isSpare(d, i, len(course) > 0, pressed[i]) {
			spare = append(spare, i)
		}
	}
	return spare, api.OK
}

// isSpare reports whether a docking without a block passes the levels at which the ship is not
// clear of this block. At all others the ship stands without it as it does with it, so that there
// only the overhang can be too much, which is the same at any level.
func isSpare(d api.Docking, block int, isJudged bool, levels []int) bool {
	d.Blocks = slices.Concat(d.Blocks[:block], d.Blocks[block+1:])
	p, _ := planOf(d)
	if isJudged && len(p.overhangFailures()) > 0 {
		return false
	}
	at, _, _ := p.firstFailing(levels)
	return at == len(levels)
}

// Help returns the names of the fewest loads that make the verdict on a course OK.
func Help(d api.Docking, course []int, options []api.Load) ([]string, api.Errno) {
	if _, e := planFor(d, course); e != api.OK {
		return nil, e
	}
	if len(options) > api.MaxOptions {
		return nil, api.ErrLarge
	}
	if e := hull.Check(laden(d, options).Ship); e != api.OK {
		return nil, e
	}
	order := slices.Clone(course)
	for _, choice := range choices(len(options)) {
		var chosen []api.Load
		var names []string
		for _, i := range choice {
			chosen, names = append(chosen, options[i]), append(names, options[i].Name)
		}
		p, _ := planOf(laden(d, chosen))
		at, _, _ := p.firstFailing(order)
		if at == len(order) {
			return names, api.OK
		}
		// the next choice is likely to fail at the same level, which is tried first then
		order[0], order[at] = order[at], order[0]
	}
	return nil, api.ErrNone
}

// laden returns the docking with loads added to the ship.
func laden(d api.Docking, l []api.Load) api.Docking {
	d.Ship.Items = slices.Concat(d.Ship.Items, l)
	return d
}

// choices returns all ascending lists of numbers less than n, the shorter ones first, and those of
// one length in lexicographic order.
func choices(n int) [][]int {
	all := [][]int{nil}
	for i := 0; i < len(all); i++ {
		next := 0
		if k := len(all[i]); k > 0 {
			next = all[i][k-1] + 1
		}
		for ; next < n; next++ {
			all = append(all, append(slices.Clone(all[i]), next))
		}
	}
	return all
}

// duplicate returns the same docking in new memory.
func duplicate(d api.Docking) api.Docking {
	d.Ship = common.CopyShip(d.Ship)
	d.Zones = slices.Clone(d.Zones)
	d.Blocks = slices.Clone(d.Blocks)
	for i, b := range d.Blocks {
		d.Blocks[i] = copyBlock(b)
	}
	return d
}

// copyBlock keeps the number as it is written: a block stays what it was.
func copyBlock(b api.Block) api.Block {
	b.Stiff.Num.Limbs = slices.Clone(b.Stiff.Num.Limbs)
	b.Stiff.Den.Limbs = slices.Clone(b.Stiff.Den.Limbs)
	return b
}
