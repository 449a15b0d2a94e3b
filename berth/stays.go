package berth

import (
	"slices"

	"keelblock/api"
	"keelblock/common"
)

// CheckStays checks that all ships of a yard come and leave on docking days, one at a time in each
// dock.
func CheckStays(y api.Yard, s []api.Stay) api.Errno {
	if e := yardError(y); e != api.OK {
		return e
	}
	if len(s) != len(y.Calls) {
		return api.ErrShape
	}
	var taken []booking
	for i, stay := range s {
		if e := stayError(y, s[:i], stay); e != api.OK {
			return e
		}
		taken = append(taken, book(findDock(y.Docks, stay.Dock), callOf(y, stay), stay.Day))
	}
	if !areFree(taken, booking.clashes) {
		return api.ErrClash
	}
	return api.OK
}

// Cost returns what stays cost because ships leave behind the days on which they are due.
func Cost(y api.Yard, s []api.Stay) (int, api.Errno) {
	if e := CheckStays(y, s); e != api.OK {
		return 0, e
	}
	total := 0
	for _, stay := range s {
		total += costOf(callOf(y, stay), stay.Day)
	}
	return total, api.OK
}

func yardError(y api.Yard) api.Errno {
	if e := common.FirstError(CheckDocks(y.Docks), CheckCalls(y.Calls), seaError(y.Sea)); e != api.OK {
		return e
	}
	if !common.Within(y.Last, 0, api.MaxDays) {
		return api.ErrRange
	}
	return api.OK
}

// stayError returns the error of a stay behind those that were checked before it.
func stayError(y api.Yard, before []api.Stay, s api.Stay) api.Errno {
	i, j := findCall(y.Calls, s.Call), findDock(y.Docks, s.Dock)
	if i < 0 || j < 0 {
		return api.ErrMissing
	}
	c, d := y.Calls[i], y.Docks[j]
	switch {
	case slices.ContainsFunc(before, func(o api.Stay) bool { return o.Call == s.Call }):
		return api.ErrExists
	case !fits(d, c):
		return api.ErrLimit
	case s.Day < c.Arrive:
		return api.ErrState
	case s.Day > y.Last-c.Work: // the day may be so great that a sum would overflow
		return api.ErrRange
	}
	days := dockingDays(d, c, y.Sea)
	if !slices.Contains(days, s.Day) || !slices.Contains(days, s.Day+c.Work) {
		return api.ErrNone
	}
	return api.OK
}

// A period is a time from a day or minute to another one, which is not included.
type period struct{ from, to int }

func overlap(a, b period) bool { return a.from < b.to && b.from < a.to }

// A booking is a time in a dock, given by its number.
type booking struct {
	dock int
	time period
}

// book returns the booking of a ship that comes into a dock on a day.
func book(dock int, c api.Call, day int) booking {
	return booking{dock: dock, time: period{from: day, to: day + c.Work}}
}

func (b booking) clashes(o booking) bool { return b.dock == o.dock && overlap(b.time, o.time) }

// callOf returns the ship of a stay, which the yard has.
func callOf(y api.Yard, s api.Stay) api.Call { return y.Calls[findCall(y.Calls, s.Call)] }

// costOf returns the cost of a ship that comes on a day.
func costOf(c api.Call, day int) int { return c.Late * max(0, day+c.Work-c.Due) }
