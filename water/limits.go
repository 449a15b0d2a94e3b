package water

import (
	"keelblock/api"
	"keelblock/common"
	"keelblock/exact"
)

// The kinds of limits, in the order in which their names are given.
const (
	limitDraught = iota
	limitTrim
	limitHeel
	limitHog
	limitCount
)

var limitNames = [limitCount]string{"draught", "trim", "heel", "hog"}

// Broken returns the names of the limits that a floating dock does not keep.
func Broken(p api.Pontoon, l api.Limits, steps []int) ([]string, api.Errno) {
	d, e := newDock(p, l)
	if e != api.OK {
		return nil, e
	}
	if e := stepsError(p, steps); e != api.OK {
		return nil, e
	}
	return d.broken(stateOf(steps)).names(), api.OK
}

// Conflict returns the names of limits that no state keeps, none of which can be left out.
func Conflict(p api.Pontoon, l api.Limits) ([]string, api.Errno) {
	d, e := newDock(p, l)
	if e != api.OK {
		return nil, e
	}
	if stateCount(p) > api.MaxStates {
		return nil, api.ErrLarge
	}
	found := map[choice]bool{}
	for s := range d.states() {
		found[d.broken(s)] = true
	}
	canKeep := func(c choice) bool {
		for b := range found {
			if !b.meets(c) {
				return true
			}
		}
		return false
	}
	rest := choice{true, true, true, true}
	if canKeep(rest) {
		return nil, api.OK
	}
	for i := limitCount - 1; i >= 0; i-- {
		less := rest
		less[i] = false
		if !canKeep(less) {
			rest = less
		}
	}
	return rest.names(), api.OK
}

// A choice of limits says of each kind whether it is meant.
type choice [limitCount]bool

// names returns the names of the limits that are meant.
func (c choice) names() []string {
	var out []string
	for i, meant := range c {
		if meant {
			out = append(out, limitNames[i])
		}
	}
	return out
}

// meets reports whether a limit is meant by both choices.
func (c choice) meets(o choice) bool {
	for i := range c {
		if c[i] && o[i] {
			return true
		}
	}
	return false
}

func limitsError(l api.Limits) api.Errno {
	if !isDraught(l.DraughtLeast) || !isDraught(l.DraughtMost) ||
		!common.Within(l.TrimMost, 0, steepest) || !common.Within(l.HeelMost, 0, steepest) ||
		!common.Within(l.HogMost, 0, mostHog) {
		return api.ErrRange
	}
	return api.OK
}

func isDraught(n int) bool { return common.Within(n, 0, api.MaxLength) }

// A dock is a floating dock with its limits, each as a span of what it bounds in the sums of the
// masses. Spans of integers are compared faster than the fractions of poses.
type dock struct {
	pontoon api.Pontoon
	limits  [limitCount]span
}

type span struct{ least, most int }

func (s span) has(n int) bool { return common.Within(n, s.least, s.most) }

// newDock returns the error of the floating dock, or that of the limits.
func newDock(p api.Pontoon, l api.Limits) (dock, api.Errno) {
	if e := CheckPontoon(p); e != api.OK {
		return dock{}, e
	}
	if e := limitsError(l); e != api.OK {
		return dock{}, e
	}
	b := p.Breadth
	d := dock{pontoon: p}
	d.limits[limitDraught] = massesFor(p, l.DraughtLeast, l.DraughtMost)
	d.limits[limitTrim] = momentsFor(common.Product(l.TrimMost, p.Density, b, p.Length, p.Length, p.Length))
	d.limits[limitHeel] = momentsFor(common.Product(l.HeelMost, p.Density, p.Length, b, b, b))
	d.limits[limitHog] = span{-8 * l.HogMost, 8 * l.HogMost}
	return d, api.OK
}

// massesFor returns the masses of the draughts from least to most.
func massesFor(p api.Pontoon, least, most int) span {
	mass := func(draught int) api.Rat {
		return common.Over(common.Product(draught, p.Density, p.Length, p.Breadth), common.Whole(cubicMetre))
	}
	// rounded up: down, of the opposite number
	return span{-floor(exact.SubRat(api.Rat{}, mass(least))), floor(mass(most))}
}

// momentsFor returns the moments of slopes of either sign, for the product of the greatest slope
// with the density and the lengths.
func momentsFor(product api.Rat) span {
	most := floor(common.Over(product, common.Whole(1000*12*cubicMetre)))
	return span{-most, most}
}

// floor returns a number rounded down, which must be within int.
func floor(x api.Rat) int {
	n, _ := exact.Small(exact.Floor(x))
	return n
}

// broken returns the limits that a state of the tanks does not keep.
func (d dock) broken(steps state) choice {
	s := sumUp(d.pontoon, steps)
	bounded := [limitCount]int{
		limitDraught: s.mass,
		limitTrim:    s.along,
		limitHeel:    s.across,
		limitHog:     s.bending(d.pontoon.Length),
	}
	var c choice
	for i, n := range bounded {
		c[i] = !d.limits[i].has(n)
	}
	return c
}

// keepsAll reports whether a state of the tanks keeps all limits.
func (d dock) keepsAll(s state) bool { return d.broken(s) == choice{} }
