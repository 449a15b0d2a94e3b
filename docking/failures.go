package docking

import (
	"slices"

	"keelblock/api"
	"keelblock/common"
	"keelblock/exact"
	"keelblock/hull"
)

// Failures returns why a docking fails at a water level.
func Failures(d api.Docking, level api.Rat) ([]api.Failure, api.Errno) {
	p, e := planOf(d)
	if e != api.OK {
		return nil, e
	}
	l, _, e := p.judge(level)
	return l, e
}

// Overhang returns how far the hull reaches beyond the keel blocks.
func Overhang(d api.Docking) (aft, fore int, e api.Errno) {
	if e := Check(d); e != api.OK {
		return 0, 0, e
	}
	aft, fore, found := overhang(d)
	if !found {
		return 0, 0, api.ErrNone
	}
	return aft, fore, api.OK
}

// Judge returns the first level of a course at which a docking fails.
func Judge(d api.Docking, course []int) (api.Verdict, api.Errno) {
	p, e := planFor(d, course)
	if e != api.OK {
		return api.Verdict{}, e
	}
	at, failures, e := p.firstFailing(course)
	if e != api.OK {
		return api.Verdict{}, e
	}
	if at == len(course) {
		return api.Verdict{OK: true}, api.OK
	}
	return api.Verdict{At: at, Failures: failures}, api.OK
}

// firstFailing returns the number of the first level with failures or an error, or that of all
// levels if there is none.
func (p plan) firstFailing(course []int) (int, []api.Failure, api.Errno) {
	for i, w := range course {
		failures, _, e := p.judgeLevel(w)
		if e != api.OK || len(failures) > 0 {
			return i, failures, e
		}
	}
	return len(course), nil, api.OK
}

// judgeLevel is judge for a level of a course.
func (p plan) judgeLevel(w int) ([]api.Failure, api.Docked, api.Errno) {
	if e := levelError(w); e != api.OK {
		return nil, api.Docked{}, e
	}
	return p.judge(common.Whole(w))
}

// judge returns the failures at a level, and the standing if there is one. A level that is out of
// range is an error of the equilibrium, too.
func (p plan) judge(level api.Rat) ([]api.Failure, api.Docked, api.Errno) {
	failures := p.overhangFailures()
	s, e := p.at(level)
	switch e {
	case api.OK:
		return append(failures, p.weaknesses(s)...), s, api.OK
	case api.ErrSink, api.ErrTip:
		return append(failures, api.Failure{Kind: api.RTip}), api.Docked{}, api.OK
	}
	return nil, api.Docked{}, e
}

func (p plan) overhangFailures() []api.Failure {
	var l []api.Failure
	aft, fore, found := overhang(p.docking)
	for i, reach := range []int{aft, fore} {
		if !found || reach > p.docking.Overhang {
			l = append(l, api.Failure{Kind: api.ROverhang, Index: i})
		}
	}
	return l
}

// overhang is Overhang for a docking that is checked, and reports whether there is a keel block.
func overhang(d api.Docking) (aft, fore int, found bool) {
	var from, to []int
	for _, b := range d.Blocks {
		if !b.Side {
			from, to = append(from, b.X-b.Half), append(to, b.X+b.Half)
		}
	}
	if len(from) == 0 {
		return 0, 0, false
	}
	first, last := d.Ship.Stations[0], d.Ship.Stations[len(d.Ship.Stations)-1]
	aft = slices.Min(from) - (first.X - roundedHalf(first.Width))
	fore = last.X + roundedHalf(last.Width) - slices.Max(to)
	return max(0, aft), max(0, fore), true
}

// roundedHalf rounds up: outward at both ends of the hull.
func roundedHalf(width int) int { return (width + 1) / 2 }

// weaknesses returns the failures of a standing.
func (p plan) weaknesses(s api.Docked) []api.Failure {
	var l []api.Failure
	if p.isAground(s.Attitude) {
		l = append(l, api.Failure{Kind: api.RTip, Index: 1})
	}
	if common.Sign(s.Buoyancy) != 0 && !s.Held && exact.CmpRat(s.Stable.GM, common.Whole(p.docking.GM)) < 0 {
		l = append(l, api.Failure{Kind: api.RGM})
	}
	for i, b := range p.docking.Blocks {
		if exact.CmpRat(s.Loads[i], common.Whole(pieces(b)*b.Limit)) > 0 {
			l = append(l, api.Failure{Kind: api.RBlock, Index: i})
		}
	}
	return l
}

// isAground reports whether the hull touches the floor of the dock.
func (p plan) isAground(a api.Attitude) bool {
	return slices.ContainsFunc(p.docking.Ship.Stations, func(t api.Station) bool {
		return exact.CmpRat(common.Whole(t.Levels[0]), hull.Immersion(a, t.X)) < 0
	})
}
