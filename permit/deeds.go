package permit

import (
	"slices"

	"keelblock/api"
)

// A deed does an event, or changes nothing and returns its error with the names of witnesses.
type deed func(o *Office, x api.Event) ([]string, api.Errno)

func isOp(op int) bool { return within(op, api.EventTick, api.EventExtend) }

func deedOf(op int) deed {
	deeds := [...]deed{
		api.EventTick:    (*Office).tick,
		api.EventApprove: (*Office).approve,
		api.EventOpen:    (*Office).start,
		api.EventSuspend: (*Office).suspend,
		api.EventResume:  (*Office).resume,
		api.EventClose:   (*Office).finish,
		api.EventCancel:  (*Office).cancel,
		api.EventGas:     (*Office).test,
		api.EventEnter:   (*Office).enter,
		api.EventLeave:   (*Office).leave,
		api.EventAlarm:   (*Office).alarm,
		api.EventExtend:  (*Office).extend,
	}
	return deeds[op]
}

func (o *Office) tick(api.Event) ([]string, api.Errno) { return nil, api.OK }

func (o *Office) approve(x api.Event) ([]string, api.Errno) {
	if e := o.signError(x, api.Requested); e != api.OK {
		return nil, e
	}
	s := o.states[x.Name]
	s.state, s.approver = api.Approved, x.Person
	o.states[x.Name] = s
	return nil, api.OK
}

func (o *Office) start(x api.Event) ([]string, api.Errno) { return o.open(x, api.Approved) }

func (o *Office) resume(x api.Event) ([]string, api.Errno) { return o.open(x, api.Suspended) }

// open opens a permit that has a state, if nothing stands in the way.
func (o *Office) open(x api.Event, from int) ([]string, api.Errno) {
	if e := o.signError(x, from); e != api.OK {
		return nil, e
	}
	if x.Person == o.states[x.Name].approver {
		return nil, api.ErrSigned
	}
	for r := range o.reasons(o.chart.permits[x.Name]) {
		return r.Names, r.Err
	}
	o.become(x.Name, api.Open)
	return nil, api.OK
}

func (o *Office) suspend(x api.Event) ([]string, api.Errno) {
	if e := o.stateError(x, api.Open); e != api.OK {
		return nil, e
	}
	o.become(x.Name, api.Suspended)
	return nil, api.OK
}

func (o *Office) cancel(x api.Event) ([]string, api.Errno) {
	if e := o.stateError(x, api.Requested, api.Approved); e != api.OK {
		return nil, e
	}
	o.become(x.Name, api.Cancelled)
	return nil, api.OK
}

func (o *Office) finish(x api.Event) ([]string, api.Errno) {
	if e := o.stateError(x, api.Open, api.Suspended); e != api.OK {
		return nil, e
	}
	if names, e := o.needed(o.chart.permits[x.Name]); e != api.OK {
		return names, e
	}
	o.become(x.Name, api.Closed)
	return nil, api.OK
}

// needed returns the error of closing a permit on which others rely, with their names.
func (o *Office) needed(p api.Permit) ([]string, api.Errno) {
	switch p.Kind {
	case api.Isolation:
		users := o.openOnes(func(x api.Permit) bool { return slices.Contains(x.Locks, p.Name) })
		if len(users) > 0 {
			return users, api.ErrInterlock
		}
	case api.Entry:
		if !o.isOpen(p.Name) || !o.chart.spaces[p.Space].Enclosed || o.hasEntry(p.Space, p.Name) {
			return nil, api.OK
		}
		if people := o.Inside(p.Space); len(people) > 0 {
			return people, api.ErrUnsafe
		}
	}
	return nil, api.OK
}

func (o *Office) test(x api.Event) ([]string, api.Errno) {
	if !o.chart.hasSpace(x.Space) {
		return nil, api.ErrMissing
	}
	if !within(x.Oxygen, 0, mostTested) || !within(x.Gas, 0, mostTested) {
		return nil, api.ErrRange
	}
	o.tests[x.Space] = gasTest{at: x.At, oxygen: x.Oxygen, gas: x.Gas}
	return nil, api.OK
}

func (o *Office) enter(x api.Event) ([]string, api.Errno) {
	if !isName(x.Person) {
		return nil, api.ErrName
	}
	if !o.chart.hasSpace(x.Space) {
		return nil, api.ErrMissing
	}
	if _, is := o.inside[x.Person]; is {
		return nil, api.ErrState
	}
	if o.chart.spaces[x.Space].Enclosed && !o.hasEntry(x.Space, "") {
		return nil, api.ErrUnsafe
	}
	sources := o.openOnes(func(p api.Permit) bool {
		return p.Kind == api.Radiography && o.chart.near(x.Space, p.Space) <= 1
	})
	if len(sources) > 0 {
		return sources, api.ErrClash
	}
	o.inside[x.Person] = x.Space
	return nil, api.OK
}

func (o *Office) leave(x api.Event) ([]string, api.Errno) {
	if !isName(x.Person) {
		return nil, api.ErrName
	}
	if _, is := o.inside[x.Person]; !is {
		return nil, api.ErrMissing
	}
	delete(o.inside, x.Person)
	return nil, api.OK
}

func (o *Office) alarm(x api.Event) ([]string, api.Errno) {
	if !o.chart.hasSpace(x.Space) {
		return nil, api.ErrMissing
	}
	for _, name := range o.openOnes(func(p api.Permit) bool {
		return p.Kind != api.Isolation && o.chart.near(x.Space, p.Space) <= 1
	}) {
		o.become(name, api.Suspended)
	}
	return nil, api.OK
}

func (o *Office) extend(x api.Event) ([]string, api.Errno) {
	if e := o.signError(x, api.Approved, api.Open, api.Suspended); e != api.OK {
		return nil, e
	}
	s := o.states[x.Name]
	if x.To <= s.to || x.To > api.MaxMinutes {
		return nil, api.ErrRange
	}
	s.to = x.To
	o.states[x.Name] = s
	return nil, api.OK
}

// stateError returns the error of an event whose permit must have one of some states.
func (o *Office) stateError(x api.Event, states ...int) api.Errno {
	if !o.chart.hasPermit(x.Name) {
		return api.ErrMissing
	}
	if !slices.Contains(states, o.states[x.Name].state) {
		return api.ErrState
	}
	return api.OK
}

// signError returns the error of an event that, besides, a person has to sign.
func (o *Office) signError(x api.Event, states ...int) api.Errno {
	if e := o.stateError(x, states...); e != api.OK {
		return e
	}
	if !isName(x.Person) {
		return api.ErrName
	}
	return api.OK
}
