package permit

import (
	"cmp"
	"math/bits"
	"slices"

	"keelblock/api"
)

// Compatible reports whether permits may be open together.
func Compatible(p api.PermitPlan, names []string) (bool, api.Errno) {
	c, e := chartOf(p)
	if e != api.OK {
		return false, e
	}
	var s set
	for _, name := range names {
		i := findPermit(c.plan, name)
		if i < 0 {
			return false, api.ErrMissing
		}
		if s.has(i) {
			return false, api.ErrExists
		}
		s |= only(i)
	}
	return isPossible(s, c.ties()), api.OK
}

// Reachable returns all sets of permits that may be open together.
func Reachable(p api.PermitPlan) ([][]string, api.Errno) {
	c, sets, e := possibleSets(p)
	if e != api.OK {
		return nil, e
	}
	return c.namesOf(sets), api.OK
}

// Maximal returns the greatest ones of these sets.
func Maximal(p api.PermitPlan) ([][]string, api.Errno) {
	c, sets, e := possibleSets(p)
	if e != api.OK {
		return nil, e
	}
	var greatest []set
	for _, s := range sets {
		if !slices.ContainsFunc(sets, func(other set) bool { return other != s && other&s == s }) {
			greatest = append(greatest, s)
		}
	}
	return c.namesOf(greatest), api.OK
}

// A set of permits has the bit i for the permit with the place i in the plan.
type set uint32

func only(i int) set { return 1 << i }

func (s set) has(i int) bool { return s&only(i) != 0 }

// Ties are the permits that exclude a permit, and its locks.
type ties struct{ excluding, locks set }

// ties returns those of all permits, in the order of the plan.
func (c chart) ties() []ties {
	var out []ties
	for _, x := range c.plan.Permits {
		var t ties
		for i, other := range c.plan.Permits {
			if c.exclude(x, other) {
				t.excluding |= only(i)
			}
			if slices.Contains(x.Locks, other.Name) {
				t.locks |= only(i)
			}
		}
		out = append(out, t)
	}
	return out
}

func isPossible(s set, all []ties) bool {
	for i, t := range all {
		if s.has(i) && (s&t.excluding != 0 || s&t.locks != t.locks) {
			return false
		}
	}
	return true
}

// possibleSets returns the possible sets of a plan, in the order in which they are listed.
func possibleSets(p api.PermitPlan) (chart, []set, api.Errno) {
	c, e := chartOf(p)
	if e != api.OK {
		return chart{}, nil, e
	}
	if len(c.plan.Permits) > mostListed {
		return chart{}, nil, api.ErrLarge
	}
	all := c.ties()
	var out []set
	for s := range only(len(all)) {
		if isPossible(s, all) {
			out = append(out, s)
		}
	}
	slices.SortFunc(out, compareSets)
	return c, out, api.OK
}

func compareSets(a, b set) int {
	if c := cmp.Compare(bits.OnesCount32(uint32(a)), bits.OnesCount32(uint32(b))); c != 0 {
		return c
	}
	// of two lists of places, the first one has the least place that is in one of them only
	return cmp.Compare(bits.Reverse32(uint32(b)), bits.Reverse32(uint32(a)))
}

func (c chart) namesOf(sets []set) [][]string {
	var out [][]string
	for _, s := range sets {
		var names []string
		for i, x := range c.plan.Permits {
			if s.has(i) {
				names = append(names, x.Name)
			}
		}
		out = append(out, names)
	}
	return out
}
