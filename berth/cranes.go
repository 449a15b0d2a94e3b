package berth

import (
	"slices"

	"keelblock/api"
	"keelblock/common"
)

// CheckCranes returns the error of a list of cranes.
func CheckCranes(c []api.Crane) api.Errno {
	name := func(c api.Crane) string { return c.Name }
	return common.ListError(c, api.MaxCranes, name, func(c api.Crane) api.Errno {
		if !isOnRail(c) || !isDistance(c.Reach) || !isMass(c.Mass) {
			return api.ErrRange
		}
		return api.OK
	})
}

// CheckLifts returns the error of a list of lifts.
func CheckLifts(l []api.Lift) api.Errno {
	name := func(l api.Lift) string { return l.Name }
	return common.ListError(l, api.MaxLifts, name, func(l api.Lift) api.Errno {
		if !common.IsPlace(l.X) || !isDistance(l.Out) || !isMass(l.Mass) || !isMinute(l.Start) || !isMinute(l.End) {
			return api.ErrRange
		}
		if l.End <= l.Start {
			return api.ErrOrder
		}
		return api.OK
	})
}

// CheckHoists checks that the named cranes can make the lifts.
func CheckHoists(c []api.Crane, l []api.Lift, by []string) api.Errno {
	if e := common.FirstError(CheckCranes(c), CheckLifts(l)); e != api.OK {
		return e
	}
	if len(by) != len(l) {
		return api.ErrShape
	}
	var taken []hoist
	for i, name := range by {
		crane := findCrane(c, name)
		if crane < 0 {
			return api.ErrMissing
		}
		if !canLift(c[crane], l[i]) {
			return api.ErrLimit
		}
		taken = append(taken, hoist{crane: crane, lift: l[i]})
	}
	if !areFree(taken, func(a, b hoist) bool { return clash(c, a, b) }) {
		return api.ErrClash
	}
	return api.OK
}

// Hoists returns the first list of cranes that can make the lifts.
func Hoists(c []api.Crane, l []api.Lift) ([]string, api.Errno) {
	if e := common.FirstError(CheckCranes(c), CheckLifts(l)); e != api.OK {
		return nil, e
	}
	var choices [][]hoist
	for _, x := range l {
		choices = append(choices, hoistsOf(c, x))
	}
	hoists, found := firstList(choices, func(a, b hoist) bool { return clash(c, a, b) })
	if !found {
		return nil, api.ErrNone
	}
	var out []string
	for _, h := range hoists {
		out = append(out, c[h.crane].Name)
	}
	return out, api.OK
}

// A hoist is a lift by a crane, given by its number.
type hoist struct {
	crane int
	lift  api.Lift
}

// hoistsOf returns the hoists of a lift by all cranes that can make it.
func hoistsOf(c []api.Crane, l api.Lift) []hoist {
	var out []hoist
	for i, x := range c {
		if canLift(x, l) {
			out = append(out, hoist{crane: i, lift: l})
		}
	}
	return out
}

// clash reports whether two hoists are at the same time, and by one crane or by two that would have
// to stand in another order than on their rail.
func clash(c []api.Crane, a, b hoist) bool {
	if !overlap(period{a.lift.Start, a.lift.End}, period{b.lift.Start, b.lift.End}) {
		return false
	}
	if a.crane == b.crane {
		return true
	}
	if c[a.crane].Rail != c[b.crane].Rail {
		return false
	}
	if isBehind(c, a.crane, b.crane) {
		a, b = b, a
	}
	return a.lift.X >= b.lift.X
}

// isBehind reports whether crane i comes behind crane j on their rail.
func isBehind(c []api.Crane, i, j int) bool {
	if c[i].From != c[j].From {
		return c[i].From > c[j].From
	}
	return i > j
}

func canLift(c api.Crane, l api.Lift) bool {
	return common.Within(l.X, c.From, c.To) && l.Out <= c.Reach && l.Mass <= c.Mass
}

func isOnRail(c api.Crane) bool {
	return common.Within(c.Rail, 0, mostRail) && common.IsPlace(c.From) && common.IsPlace(c.To) && c.From <= c.To
}

func isMass(n int) bool { return common.Within(n, 0, api.MaxMass) }

func isMinute(n int) bool { return common.Within(n, 0, api.MaxMinutes) }

// findCrane returns the number of the crane with a name, or -1.
func findCrane(c []api.Crane, name string) int {
	return slices.IndexFunc(c, func(c api.Crane) bool { return c.Name == name })
}
