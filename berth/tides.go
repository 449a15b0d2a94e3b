package berth

import (
	"slices"

	"keelblock/api"
	"keelblock/common"
	"keelblock/water"
)

// Passages returns the times, as first and last minutes, at which a ship can pass the sill of a
// dock.
func Passages(d api.Dock, c api.Call, sea []api.Mark) ([][2]int, api.Errno) {
	if e := common.FirstError(pairError(d, c), seaError(sea)); e != api.OK {
		return nil, e
	}
	return passages(d, c, sea), api.OK
}

// Days returns the days on which a ship can pass the sill of a dock for long enough.
func Days(d api.Dock, c api.Call, sea []api.Mark) ([]int, api.Errno) {
	if e := common.FirstError(pairError(d, c), seaError(sea)); e != api.OK {
		return nil, e
	}
	return dockingDays(d, c, sea), api.OK
}

// seaError returns the error of a sea that must have a mark.
func seaError(sea []api.Mark) api.Errno {
	if e := water.CheckSea(sea); e != api.OK {
		return e
	}
	if len(sea) == 0 {
		return api.ErrNone
	}
	return api.OK
}

// passages is Passages for arguments that are checked.
func passages(d api.Dock, c api.Call, sea []api.Mark) [][2]int {
	level := d.Sill + c.Draught + c.Under
	if level > api.MaxLength { // which water.Above does not take, and no sea reaches
		return nil
	}
	times, _ := water.Above(sea, level, 0, sea[len(sea)-1].Minute)
	return times
}

// dockingDays is Days for arguments that are checked.
func dockingDays(d api.Dock, c api.Call, sea []api.Mark) []int {
	var days []int
	for _, p := range passages(d, c, sea) {
		for day := p[0] / dayMinutes; day <= p[1]/dayMinutes; day++ {
			first, last := max(p[0], day*dayMinutes), min(p[1], day*dayMinutes+dayMinutes-1)
			if last-first+1 >= leastPassage {
				days = append(days, day)
			}
		}
	}
	// a day with two long passages was found twice
	return slices.Compact(days)
}
