package schedule

import "keelblock/api"

// A kind of breaches has a reason, and a function that returns the names of all of them in a plan.
type kind struct {
	reason api.Errno
	find   func(p plan) [][2]string
}

// kindsOfBreaches returns all kinds, in the order in which breaches are listed.
func kindsOfBreaches() []kind {
	return []kind{
		{api.ErrOrder, tooEarly},
		{api.ErrCapacity, tooMany},
		{api.ErrClash, together},
		{api.ErrState, withoutCrane},
		{api.ErrLimit, tooLate},
	}
}

// Breaches returns all breaches of slots.
func Breaches(w api.Work, s []api.Slot) ([]api.Breach, api.Errno) {
	p, e := planOf(w, s)
	if e != api.OK {
		return nil, e
	}
	return p.breaches(), api.OK
}

// CheckPlan returns the reason of the first breach.
func CheckPlan(w api.Work, s []api.Slot) api.Errno {
	_, e := rightPlanOf(w, s)
	return e
}

func (p plan) breaches() []api.Breach {
	var out []api.Breach
	for _, k := range kindsOfBreaches() {
		for _, names := range k.find(p) {
			out = append(out, api.Breach{A: names[0], B: names[1], Reason: k.reason})
		}
	}
	return out
}

// tooEarly finds the items that begin before one of their After has ended.
func tooEarly(p plan) [][2]string {
	var out [][2]string
	for i, after := range p.after {
		for _, k := range after {
			if p.time(k).to > p.time(i).from {
				out = append(out, [2]string{p.names[k], p.names[i]})
			}
		}
	}
	return out
}

// tooMany finds the trades with more people at work than they have.
func tooMany(p plan) [][2]string {
	var out [][2]string
	for i, t := range p.Trades {
		most := 0
		for _, crew := range p.people(i) {
			most = max(most, crew)
		}
		if most > t.Crew {
			out = append(out, [2]string{t.Name})
		}
	}
	return out
}

// together finds the pairs of items that should be apart.
func together(p plan) [][2]string {
	var out [][2]string
	for i := range p.spots {
		for k := i + 1; k < len(p.spots); k++ {
			if p.time(i).meets(p.time(k)) && p.apart(i, k) {
				out = append(out, [2]string{p.names[i], p.names[k]})
			}
		}
	}
	return out
}

// withoutCrane finds the items that need the crane on a day on which it does not work.
func withoutCrane(p plan) [][2]string {
	return p.named(func(i int) bool { return p.Items[i].Crane && p.isShut(p.time(i)) })
}

// tooLate finds the items that end behind the last day.
func tooLate(p plan) [][2]string {
	return p.named(func(i int) bool { return p.time(i).to > p.Last })
}

// named returns the names of the items for which is returns true, each with an empty name.
func (p plan) named(is func(i int) bool) [][2]string {
	var out [][2]string
	for i, name := range p.names {
		if is(i) {
			out = append(out, [2]string{name})
		}
	}
	return out
}
