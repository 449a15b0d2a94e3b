package permit_test

import (
	"fmt"
	"math/rand"
	"slices"

	"keelblock/api"
	"keelblock/permit"
)

// A second opinion: the chapter's words once more, with lists that are searched from end to end.

func randomPlan(r *rand.Rand) api.PermitPlan {
	p := api.PermitPlan{GasMinutes: between(r, 1, 40)}
	count := between(r, 1, 5)
	for i := range count {
		s := api.Space{Name: fmt.Sprint("S", i), Enclosed: r.Intn(3) > 0}
		for range r.Intn(3) {
			if k := r.Intn(count); k != i {
				s.Next = append(s.Next, fmt.Sprint("S", k))
			}
		}
		p.Spaces = append(p.Spaces, s)
	}
	for range r.Intn(6) {
		p.Exclusions = append(p.Exclusions, api.Exclusion{A: r.Intn(6), B: r.Intn(6), Reach: r.Intn(3)})
	}
	var locks []string
	for i := range r.Intn(8) {
		x := api.Permit{Name: fmt.Sprint("P", i), Kind: r.Intn(6), Space: fmt.Sprint("S", r.Intn(count)), From: max(0, r.Intn(20)-10)}
		x.To = x.From + between(r, 1, 150)
		if x.Kind == api.Isolation {
			locks = append(locks, x.Name)
		}
		p.Permits = append(p.Permits, x)
	}
	r.Shuffle(len(p.Permits), func(i, k int) { p.Permits[i], p.Permits[k] = p.Permits[k], p.Permits[i] })
	for i, x := range p.Permits {
		for range r.Intn(3) {
			if len(locks) > 0 && x.Kind != api.Isolation {
				p.Permits[i].Locks = append(p.Permits[i].Locks, locks[r.Intn(len(locks))])
			}
		}
	}
	return p
}

func secondSpace(p api.PermitPlan, name string) (api.Space, bool) {
	for _, s := range p.Spaces {
		if s.Name == name {
			return s, true
		}
	}
	return api.Space{}, false
}

func secondNear(a, b api.Space) int {
	near := 2
	for _, name := range a.Next {
		if name == b.Name {
			near = 1
		}
	}
	for _, name := range b.Next {
		if name == a.Name {
			near = 1
		}
	}
	if a.Name == b.Name {
		near = 0
	}
	return near
}

func secondNearby(p api.PermitPlan, a, b string) bool {
	first, _ := secondSpace(p, a)
	other, _ := secondSpace(p, b)
	return secondNear(first, other) < 2
}

func secondNeeds(p api.PermitPlan, x api.Permit) []string {
	var first, others []string
	for _, s := range p.Spaces {
		own, _ := secondSpace(p, x.Space)
		switch {
		case !s.Enclosed || x.Kind > api.Spraying:
		case s.Name == x.Space:
			first = append(first, s.Name)
		case x.Kind == api.HotWork && secondNear(own, s) == 1:
			others = append(others, s.Name)
		}
	}
	return append(first, others...)
}

func secondConflict(p api.PermitPlan, i, k int) bool {
	a, b := p.Permits[i], p.Permits[k]
	first, _ := secondSpace(p, a.Space)
	other, _ := secondSpace(p, b.Space)
	for _, x := range p.Exclusions {
		for _, kinds := range [][2]int{{x.A, x.B}, {x.B, x.A}} {
			if i != k && a.Kind == kinds[0] && b.Kind == kinds[1] && secondNear(first, other) <= x.Reach {
				return true
			}
		}
	}
	return false
}

// secondPossible reports whether a set of places of permits is possible.
func secondPossible(p api.PermitPlan, places []int) bool {
	var names []string
	for _, i := range places {
		names = append(names, p.Permits[i].Name)
	}
	for _, i := range places {
		for _, k := range places {
			if secondConflict(p, i, k) {
				return false
			}
		}
		for _, lock := range p.Permits[i].Locks {
			if !slices.Contains(names, lock) {
				return false
			}
		}
	}
	return true
}

// A secondOffice keeps all gas tests, and the people in the order in which they came.
type secondOffice struct {
	p         api.PermitPlan
	now       int
	states    []int
	approvers []string
	ends      []int
	tests     []api.Event
	people    []api.Event
	events    []api.Event
}

func newSecond(p api.PermitPlan) *secondOffice {
	o := &secondOffice{p: p, states: make([]int, len(p.Permits)), approvers: make([]string, len(p.Permits))}
	for _, x := range p.Permits {
		o.ends = append(o.ends, x.To)
	}
	o.settle()
	return o
}

func (o *secondOffice) place(name string) int {
	for i, x := range o.p.Permits {
		if x.Name == name {
			return i
		}
	}
	return -1
}

func (o *secondOffice) air(space string) (entry, hot bool) {
	if s, _ := secondSpace(o.p, space); !s.Enclosed {
		return true, true
	}
	for _, x := range o.tests {
		if x.Space == space {
			entry = x.At >= o.now-o.p.GasMinutes && x.Oxygen > 194 && x.Oxygen < 236 && x.Gas < 51
			hot = entry && x.Gas < 11
		}
	}
	return entry, hot
}

func (o *secondOffice) settle() {
	for i, state := range o.states {
		if o.ends[i] <= o.now && state <= api.Suspended {
			o.states[i] = api.Expired
		}
	}
	for again := true; again; {
		again = false
		for i, x := range o.p.Permits {
			if o.states[i] != api.Open {
				continue
			}
			for _, r := range o.why(x) {
				if r.Err == api.ErrState || r.Err == api.ErrUnsafe {
					o.states[i], again = api.Suspended, true
				}
			}
		}
	}
}

func (o *secondOffice) why(x api.Permit) []api.Reason {
	var out []api.Reason
	add := func(e api.Errno, names []string) {
		if len(names) > 0 {
			out = append(out, api.Reason{Err: e, Names: names})
		}
	}
	if o.now < x.From {
		out = append(out, api.Reason{Err: api.ErrRange})
	}
	var locks, others, spaces []string
	for _, lock := range x.Locks {
		if o.states[o.place(lock)] != api.Open {
			locks = append(locks, lock)
		}
	}
	add(api.ErrState, locks)
	for k, other := range o.p.Permits {
		if o.states[k] == api.Open && secondConflict(o.p, o.place(x.Name), k) {
			others = append(others, other.Name)
		}
	}
	add(api.ErrInterlock, others)
	for _, space := range secondNeeds(o.p, x) {
		entry, hot := o.air(space)
		if x.Kind == api.HotWork && !hot || x.Kind != api.HotWork && !entry {
			spaces = append(spaces, space)
		}
	}
	add(api.ErrUnsafe, spaces)
	if x.Kind == api.Radiography {
		add(api.ErrClash, o.who(func(space string) bool { return secondNearby(o.p, space, x.Space) }))
	}
	return out
}

func (o *secondOffice) who(is func(space string) bool) []string {
	var out []string
	for _, x := range o.people {
		if is(x.Space) {
			out = append(out, x.Person)
		}
	}
	slices.Sort(out)
	return out
}

func (o *secondOffice) open(is func(i int, x api.Permit) bool) []string {
	var out []string
	for i, x := range o.p.Permits {
		if o.states[i] == api.Open && is(i, x) {
			out = append(out, x.Name)
		}
	}
	return out
}

func (o *secondOffice) entries(space string) []string {
	return o.open(func(_ int, x api.Permit) bool { return x.Kind == api.Entry && x.Space == space })
}

func (o *secondOffice) do(x api.Event) ([]string, api.Errno) {
	if x.Op < 0 || x.Op > 11 || x.At < 0 || x.At > 1000000 {
		return nil, api.ErrRange
	}
	if x.At < o.now {
		return nil, api.ErrOrder
	}
	o.now = x.At
	o.settle()
	names, e := o.try(x)
	if e == api.OK {
		o.events = append(o.events, x)
	}
	o.settle()
	return names, e
}

func (o *secondOffice) try(x api.Event) ([]string, api.Errno) {
	i := o.place(x.Name)
	from := map[int][]int{
		api.EventApprove: {api.Requested}, api.EventOpen: {api.Approved}, api.EventSuspend: {api.Open}, api.EventResume: {api.Suspended},
		api.EventClose: {api.Open, api.Suspended}, api.EventCancel: {api.Requested, api.Approved},
		api.EventExtend: {api.Approved, api.Open, api.Suspended},
	}
	if states, named := from[x.Op]; named {
		if i < 0 {
			return nil, api.ErrMissing
		}
		if !slices.Contains(states, o.states[i]) {
			return nil, api.ErrState
		}
		signed := slices.Contains([]int{api.EventApprove, api.EventOpen, api.EventResume, api.EventExtend}, x.Op)
		if signed && !slices.Contains(somePeople(), x.Person) {
			return nil, api.ErrName
		}
		return o.change(x, i)
	}
	space, found := secondSpace(o.p, x.Space)
	switch x.Op {
	case api.EventGas:
		if !found {
			return nil, api.ErrMissing
		}
		if x.Oxygen < 0 || x.Oxygen > 1000 || x.Gas < 0 || x.Gas > 1000 {
			return nil, api.ErrRange
		}
		o.tests = append(o.tests, x)
	case api.EventEnter, api.EventLeave:
		return o.move(x, space, found)
	case api.EventAlarm:
		if !found {
			return nil, api.ErrMissing
		}
		for k, p := range o.p.Permits {
			if o.states[k] == api.Open && p.Kind != api.Isolation && secondNearby(o.p, p.Space, x.Space) {
				o.states[k] = api.Suspended
			}
		}
	}
	return nil, api.OK
}

// change does an event with the name of a permit that has one of the right states.
func (o *secondOffice) change(x api.Event, i int) ([]string, api.Errno) {
	p := o.p.Permits[i]
	switch x.Op {
	case api.EventApprove:
		o.states[i], o.approvers[i] = api.Approved, x.Person
	case api.EventOpen, api.EventResume:
		if o.approvers[i] == x.Person {
			return nil, api.ErrSigned
		}
		if l := o.why(p); len(l) > 0 {
			return l[0].Names, l[0].Err
		}
		o.states[i] = api.Open
	case api.EventSuspend:
		o.states[i] = api.Suspended
	case api.EventClose:
		users := o.open(func(_ int, user api.Permit) bool { return slices.Contains(user.Locks, x.Name) })
		if len(users) > 0 {
			return users, api.ErrInterlock
		}
		space, _ := secondSpace(o.p, p.Space)
		people := o.who(func(s string) bool { return s == p.Space })
		if o.states[i] == api.Open && p.Kind == api.Entry && space.Enclosed && len(o.entries(p.Space)) == 1 && len(people) > 0 {
			return people, api.ErrUnsafe
		}
		o.states[i] = api.Closed
	case api.EventCancel:
		o.states[i] = api.Cancelled
	case api.EventExtend:
		if x.To <= o.ends[i] || x.To > 1000000 {
			return nil, api.ErrRange
		}
		o.ends[i] = x.To
	}
	return nil, api.OK
}

// move lets a person enter or leave a space.
func (o *secondOffice) move(x api.Event, space api.Space, found bool) ([]string, api.Errno) {
	if !slices.Contains(somePeople(), x.Person) {
		return nil, api.ErrName
	}
	at := slices.IndexFunc(o.people, func(y api.Event) bool { return y.Person == x.Person })
	if x.Op == api.EventLeave {
		if at < 0 {
			return nil, api.ErrMissing
		}
		o.people = slices.Delete(o.people, at, at+1)
		return nil, api.OK
	}
	if !found {
		return nil, api.ErrMissing
	}
	if at >= 0 {
		return nil, api.ErrState
	}
	if space.Enclosed && len(o.entries(x.Space)) == 0 {
		return nil, api.ErrUnsafe
	}
	sources := o.open(func(_ int, p api.Permit) bool {
		return p.Kind == api.Radiography && secondNearby(o.p, p.Space, x.Space)
	})
	if len(sources) > 0 {
		return sources, api.ErrClash
	}
	o.people = append(o.people, x)
	return nil, api.OK
}

// somePeople are the names of people in random events; "1" and "" are the other ones.
func somePeople() []string { return []string{"dan", "cy", "bob", "ann", "Eve"} }

// fitting are Ops that may be accepted for a permit with a state, and others.
func fitting(state int) []int {
	switch state {
	case api.Requested:
		return []int{api.EventApprove, api.EventApprove, api.EventApprove, api.EventCancel}
	case api.Approved:
		return []int{api.EventOpen, api.EventOpen, api.EventOpen, api.EventGas, api.EventExtend}
	case api.Open:
		return []int{api.EventSuspend, api.EventClose, api.EventExtend, api.EventEnter, api.EventEnter, api.EventEnter, api.EventLeave, api.EventAlarm}
	case api.Suspended:
		return []int{api.EventResume, api.EventResume, api.EventResume, api.EventResume, api.EventExtend, api.EventGas, api.EventClose}
	}
	return []int{api.EventGas, api.EventGas, api.EventGas, api.EventEnter, api.EventTick}
}

// randomEvent is one that may be refused, not too long behind the time of an office.
func randomEvent(r *rand.Rand, p api.PermitPlan, o *permit.Office) api.Event {
	now := o.Now()
	x := api.Event{At: now + max(0, r.Intn(8)-4), Op: r.Intn(12), Oxygen: between(r, 193, 237), Gas: r.Intn(14), To: now + r.Intn(200)}
	x.Space = p.Spaces[r.Intn(len(p.Spaces))].Name
	x.Person = somePeople()[r.Intn(5)]
	if len(p.Permits) > 0 {
		y := p.Permits[r.Intn(len(p.Permits))]
		x.Name = y.Name
		if r.Intn(5) > 0 {
			state, _ := o.State(x.Name)
			l := fitting(state)
			x.Op = l[r.Intn(len(l))]
		}
		if r.Intn(2) > 0 {
			x.Space = y.Space
		}
	}
	spoilEvent(r, &x, now)
	return x
}

// spoilEvent makes one field a wrong one, or one at its limits, now and then.
func spoilEvent(r *rand.Rand, x *api.Event, now int) {
	switch r.Intn(80) {
	case 0:
		x.Name = "None"
	case 1:
		x.Space = ""
	case 2:
		x.Person = []string{"", "1"}[r.Intn(2)]
	case 3:
		x.Oxygen = []int{-1, 0, 1000, 1001}[r.Intn(4)]
	case 4:
		x.Gas = []int{-1, 50, 51, 1000, 1001}[r.Intn(5)]
	case 5:
		x.To = []int{-1, 0, 1000000, 1000001}[r.Intn(4)]
	case 6:
		x.Op = []int{-1, 12}[r.Intn(2)]
	case 7:
		x.At = []int{-1, now - 1, 1000001}[r.Intn(3)]
	}
}
