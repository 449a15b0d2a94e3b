package permit

import (
	"slices"

	"keelblock/api"
)

// CheckPlan returns the error of a plan.
func CheckPlan(p api.PermitPlan) api.Errno {
	for _, check := range []func(api.PermitPlan) api.Errno{
		sizeError, spacesError, neighboursError, exclusionsError, permitsError, locksError,
	} {
		if e := check(p); e != api.OK {
			return e
		}
	}
	return api.OK
}

func sizeError(p api.PermitPlan) api.Errno {
	if len(p.Spaces) > api.MaxSpaces || len(p.Exclusions) > api.MaxRules || len(p.Permits) > api.MaxPermits {
		return api.ErrLarge
	}
	if !within(p.GasMinutes, 1, mostGasMinutes) {
		return api.ErrRange
	}
	return api.OK
}

func spacesError(p api.PermitPlan) api.Errno {
	names := map[string]bool{}
	for _, s := range p.Spaces {
		if e := nameError(s.Name, names); e != api.OK {
			return e
		}
		if len(s.Next) > mostNext {
			return api.ErrLarge
		}
		names[s.Name] = true
	}
	return api.OK
}

// nameError returns the error of a name that comes behind others.
func nameError(name string, before map[string]bool) api.Errno {
	if !isName(name) {
		return api.ErrName
	}
	if before[name] {
		return api.ErrExists
	}
	return api.OK
}

func neighboursError(p api.PermitPlan) api.Errno {
	for _, s := range p.Spaces {
		for _, next := range s.Next {
			if findSpace(p, next) < 0 {
				return api.ErrMissing
			}
			if next == s.Name {
				return api.ErrForm
			}
		}
	}
	return api.OK
}

func exclusionsError(p api.PermitPlan) api.Errno {
	for _, x := range p.Exclusions {
		if !isKind(x.A) || !isKind(x.B) || !within(x.Reach, 0, 2) {
			return api.ErrRange
		}
	}
	return api.OK
}

func isKind(n int) bool { return within(n, api.HotWork, api.Isolation) }

func permitsError(p api.PermitPlan) api.Errno {
	names := map[string]bool{}
	for _, x := range p.Permits {
		if e := nameError(x.Name, names); e != api.OK {
			return e
		}
		if !isKind(x.Kind) || !isMinute(x.From) || !isMinute(x.To) || x.From >= x.To {
			return api.ErrRange
		}
		if findSpace(p, x.Space) < 0 {
			return api.ErrMissing
		}
		if len(x.Locks) > mostLocks {
			return api.ErrLarge
		}
		names[x.Name] = true
	}
	return api.OK
}

func locksError(p api.PermitPlan) api.Errno {
	for _, x := range p.Permits {
		for _, lock := range x.Locks {
			i := findPermit(p, lock)
			if i < 0 {
				return api.ErrMissing
			}
			if p.Permits[i].Kind != api.Isolation || x.Kind == api.Isolation {
				return api.ErrForm
			}
		}
	}
	return api.OK
}

// findSpace returns the place of the space with a name in the plan, or -1.
func findSpace(p api.PermitPlan, name string) int {
	return slices.IndexFunc(p.Spaces, func(s api.Space) bool { return s.Name == name })
}

// findPermit returns the place of the permit with a name in the plan, or -1.
func findPermit(p api.PermitPlan, name string) int {
	return slices.IndexFunc(p.Permits, func(x api.Permit) bool { return x.Name == name })
}

// copyPlan returns the same plan in new memory.
func copyPlan(p api.PermitPlan) api.PermitPlan {
	p.Spaces = slices.Clone(p.Spaces)
	for i, s := range p.Spaces {
		p.Spaces[i].Next = slices.Clone(s.Next)
	}
	p.Exclusions = slices.Clone(p.Exclusions)
	p.Permits = slices.Clone(p.Permits)
	for i, x := range p.Permits {
		p.Permits[i].Locks = slices.Clone(x.Locks)
	}
	return p
}
