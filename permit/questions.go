package permit

import (
	"slices"

	"keelblock/api"
)

// Now returns the time.
func (o *Office) Now() int {
	if o == nil {
		return 0
	}
	return o.now
}

// State returns the state of a permit.
func (o *Office) State(name string) (int, api.Errno) {
	if o == nil {
		return 0, api.ErrNil
	}
	if !o.chart.hasPermit(name) {
		return 0, api.ErrMissing
	}
	return o.states[name].state, api.OK
}

// Open returns the names of the open permits.
func (o *Office) Open() []string {
	if o == nil {
		return nil
	}
	return o.openOnes(func(api.Permit) bool { return true })
}

// Inside returns the people in a space.
func (o *Office) Inside(space string) []string {
	if o == nil {
		return nil
	}
	return o.people(func(s string) bool { return s == space })
}

// Overdue returns the people in enclosed spaces without an open entry permit.
func (o *Office) Overdue() []string {
	if o == nil {
		return nil
	}
	return o.people(func(space string) bool {
		return o.chart.spaces[space].Enclosed && !o.hasEntry(space, "")
	})
}

// Safe reports whether a space has good air for entry and for hot work.
func (o *Office) Safe(space string) (entry, hot bool, e api.Errno) {
	if o == nil {
		return false, false, api.ErrNil
	}
	if !o.chart.hasSpace(space) {
		return false, false, api.ErrMissing
	}
	entry, hot = o.air(space)
	return entry, hot, api.OK
}

// Why returns what stands in the way of opening a permit.
func (o *Office) Why(name string) ([]api.Reason, api.Errno) {
	if o == nil {
		return nil, api.ErrNil
	}
	if !o.chart.hasPermit(name) {
		return nil, api.ErrMissing
	}
	return slices.Collect(o.reasons(o.chart.permits[name])), api.OK
}

// Events returns the accepted events.
func (o *Office) Events() []api.Event {
	if o == nil {
		return nil
	}
	return slices.Clone(o.events)
}
