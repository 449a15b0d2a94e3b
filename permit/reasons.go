package permit

import (
	"iter"

	"keelblock/api"
)

const (
	leastOxygen  = 195 // per mille
	mostOxygen   = 235
	mostEntryGas = 50 // per mille of the lower explosive limit
	mostHotGas   = 10
)

// reasons yields what stands in the way of opening a permit now.
func (o *Office) reasons(x api.Permit) iter.Seq[api.Reason] {
	hindrances := []struct {
		e     api.Errno
		names func(o *Office, x api.Permit) []string
	}{
		{api.ErrState, (*Office).unlocked},
		{api.ErrInterlock, (*Office).excluding},
		{api.ErrUnsafe, (*Office).foul},
		{api.ErrClash, (*Office).exposed},
	}
	return func(yield func(api.Reason) bool) {
		if o.now < x.From && !yield(api.Reason{Err: api.ErrRange}) {
			return
		}
		for _, h := range hindrances {
			names := h.names(o, x)
			if len(names) > 0 && !yield(api.Reason{Err: h.e, Names: names}) {
				return
			}
		}
	}
}

// unlocked returns the locks of a permit that are not open.
func (o *Office) unlocked(x api.Permit) []string {
	var out []string
	for _, lock := range x.Locks {
		if !o.isOpen(lock) {
			out = append(out, lock)
		}
	}
	return out
}

// excluding returns the open permits that exclude a permit.
func (o *Office) excluding(x api.Permit) []string {
	return o.openOnes(func(other api.Permit) bool { return o.chart.exclude(x, other) })
}

// foul returns the spaces that lack the good air that a permit needs.
func (o *Office) foul(x api.Permit) []string {
	var out []string
	for _, space := range o.needs[x.Name] {
		entry, hot := o.air(space)
		if !entry || x.Kind == api.HotWork && !hot {
			out = append(out, space)
		}
	}
	return out
}

// exposed returns the people whom the radiation of a permit would reach.
func (o *Office) exposed(x api.Permit) []string {
	if x.Kind != api.Radiography {
		return nil
	}
	return o.people(func(space string) bool { return o.chart.near(x.Space, space) <= 1 })
}

// air reports whether a space has good air now, for entry and for hot work.
func (o *Office) air(space string) (entry, hot bool) {
	if !o.chart.spaces[space].Enclosed {
		return true, true
	}
	t, tested := o.tests[space]
	entry = tested &&
		o.now-t.at <= o.chart.plan.GasMinutes &&
		within(t.oxygen, leastOxygen, mostOxygen) &&
		t.gas <= mostEntryGas
	return entry, entry && t.gas <= mostHotGas
}
