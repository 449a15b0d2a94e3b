package permit

import (
	"slices"

	"keelblock/api"
)

// Office is the permit office of a ship.
type Office struct {
	chart  chart
	needs  map[string][]string // the spaces in which a permit needs good air
	now    int
	states map[string]status  // of the permits
	tests  map[string]gasTest // the last ones of the spaces
	inside map[string]string  // the spaces in which people are, by the people
	events []api.Event        // the accepted ones
}

// A status is what the office has decided about a permit.
type status struct {
	state    int
	approver string
	to       int
}

type gasTest struct{ at, oxygen, gas int }

// New returns the office of a plan.
func New(p api.PermitPlan) (*Office, api.Errno) {
	c, e := chartOf(p)
	if e != api.OK {
		return nil, e
	}
	o := &Office{
		chart:  c,
		needs:  map[string][]string{},
		states: map[string]status{},
		tests:  map[string]gasTest{},
		inside: map[string]string{},
	}
	// nothing is open yet, and no permit ends at 0, so that the office is settled
	for _, x := range c.plan.Permits {
		o.needs[x.Name] = c.needs(x)
		o.states[x.Name] = status{state: api.Requested, to: x.To}
	}
	return o, api.OK
}

// Do does an event, or refuses it.
func (o *Office) Do(x api.Event) ([]string, api.Errno) {
	if o == nil {
		return nil, api.ErrNil
	}
	if !isOp(x.Op) || !isMinute(x.At) {
		return nil, api.ErrRange
	}
	if x.At < o.now {
		return nil, api.ErrOrder
	}
	o.now = x.At
	o.settle()
	if names, e := deedOf(x.Op)(o, x); e != api.OK {
		return names, e
	}
	o.settle()
	o.events = append(o.events, x)
	return nil, api.OK
}

// settle ends the permits whose time is over, and suspends those that may not be open any more.
func (o *Office) settle() {
	for _, x := range o.chart.plan.Permits {
		if s := o.states[x.Name]; s.to <= o.now && isAlive(s.state) {
			o.become(x.Name, api.Expired)
		}
	}
	// one round is enough: only isolations are locks, and none of them is suspended here, as they
	// need no air and have no locks
	for _, x := range o.chart.plan.Permits {
		if o.isOpen(x.Name) && (len(o.foul(x)) > 0 || len(o.unlocked(x)) > 0) {
			o.become(x.Name, api.Suspended)
		}
	}
}

func isAlive(state int) bool {
	return state == api.Requested || state == api.Approved || state == api.Open || state == api.Suspended
}

func (o *Office) become(name string, state int) {
	s := o.states[name]
	s.state = state
	o.states[name] = s
}

func (o *Office) isOpen(name string) bool { return o.states[name].state == api.Open }

// openOnes returns the names of the open permits that are asked for.
func (o *Office) openOnes(asked func(x api.Permit) bool) []string {
	var out []string
	for _, x := range o.chart.plan.Permits {
		if o.isOpen(x.Name) && asked(x) {
			out = append(out, x.Name)
		}
	}
	return out
}

// hasEntry reports whether an entry permit other than one is open for a space.
func (o *Office) hasEntry(space, other string) bool {
	return len(o.openOnes(func(x api.Permit) bool {
		return x.Kind == api.Entry && x.Space == space && x.Name != other
	})) > 0
}

// people returns the names of those who are in spaces that are asked for.
func (o *Office) people(asked func(space string) bool) []string {
	var out []string
	for person, space := range o.inside {
		if asked(space) {
			out = append(out, person)
		}
	}
	slices.Sort(out)
	return out
}

// Replay does events in a new office.
func Replay(p api.PermitPlan, l []api.Event) (*Office, int, api.Errno) {
	o, e := New(p)
	if e != api.OK {
		return nil, 0, e
	}
	for n, x := range l {
		if _, e := o.Do(x); e != api.OK {
			// the refused event has let time pass in this office
			before, _, _ := Replay(p, l[:n])
			return before, n, e
		}
	}
	return o, len(l), api.OK
}
