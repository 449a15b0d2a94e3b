package permit

import (
	"slices"

	"keelblock/api"
)

// A chart is a plan without an error, with its spaces and permits by their names.
type chart struct {
	plan    api.PermitPlan
	spaces  map[string]api.Space
	permits map[string]api.Permit
}

// chartOf returns the chart of a plan, which keeps nothing of it, or the error of the plan.
func chartOf(p api.PermitPlan) (chart, api.Errno) {
	if e := CheckPlan(p); e != api.OK {
		return chart{}, e
	}
	c := chart{plan: copyPlan(p), spaces: map[string]api.Space{}, permits: map[string]api.Permit{}}
	for _, s := range c.plan.Spaces {
		c.spaces[s.Name] = s
	}
	for _, x := range c.plan.Permits {
		c.permits[x.Name] = x
	}
	return c, api.OK
}

func (c chart) hasSpace(name string) bool {
	_, is := c.spaces[name]
	return is
}

func (c chart) hasPermit(name string) bool {
	_, is := c.permits[name]
	return is
}

// near returns the least reach within which two spaces are of each other.
func (c chart) near(a, b string) int {
	switch {
	case a == b:
		return 0
	case slices.Contains(c.spaces[a].Next, b) || slices.Contains(c.spaces[b].Next, a):
		return 1
	}
	return 2
}

// exclude reports whether two permits exclude each other.
func (c chart) exclude(a, b api.Permit) bool {
	if a.Name == b.Name {
		return false
	}
	reach := c.near(a.Space, b.Space)
	return slices.ContainsFunc(c.plan.Exclusions, func(x api.Exclusion) bool {
		return reach <= x.Reach && (x.A == a.Kind && x.B == b.Kind || x.A == b.Kind && x.B == a.Kind)
	})
}

// needs returns the enclosed spaces in which a permit needs good air, its own space first.
func (c chart) needs(x api.Permit) []string {
	var out []string
	if needsAir(x.Kind) && c.spaces[x.Space].Enclosed {
		out = append(out, x.Space)
	}
	if x.Kind != api.HotWork {
		return out
	}
	for _, s := range c.plan.Spaces {
		if s.Enclosed && c.near(x.Space, s.Name) == 1 {
			out = append(out, s.Name)
		}
	}
	return out
}

// needsAir reports whether permits of a kind need good air in their space.
func needsAir(kind int) bool {
	return kind == api.HotWork || kind == api.Entry || kind == api.Spraying
}
