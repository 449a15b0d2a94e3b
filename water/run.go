package water

import (
	"slices"

	"keelblock/api"
	"keelblock/common"
)

// Step returns the state after one minute, and what each link did.
func Step(n api.Network, w api.Water) (api.Water, []int, api.Errno) {
	r, e := newRun(n, w, nil)
	if e != api.OK {
		return api.Water{}, nil, e
	}
	if !r.lasts(1) {
		return api.Water{}, nil, api.ErrRange
	}
	flows := r.minute()
	return r.water, flows, api.OK
}

// Run returns the state after some minutes.
func Run(n api.Network, w api.Water, turns []api.Turn, minutes int) (api.Water, api.Errno) {
	r, e := newRun(n, w, turns)
	if e != api.OK {
		return api.Water{}, e
	}
	if !r.lasts(minutes) {
		return api.Water{}, api.ErrRange
	}
	r.minutes(minutes)
	return r.water, api.OK
}

// Course returns levels of a basin, one now and one after every so many minutes.
func Course(n api.Network, w api.Water, turns []api.Turn, q api.CourseOf) ([]int, api.Errno) {
	r, e := newRun(n, w, turns)
	if e != api.OK {
		return nil, e
	}
	basin := findBasin(n, q.Basin)
	if basin < 0 {
		return nil, api.ErrMissing
	}
	if !common.Within(q.Every, 1, longestStep) || !common.Within(q.Count, 0, api.MaxCourse) {
		return nil, api.ErrRange
	}
	if !r.lasts(max(q.Count-1, 0) * q.Every) {
		return nil, api.ErrRange
	}
	var out []int
	for i := range q.Count {
		if i > 0 {
			r.minutes(q.Every)
		}
		out = append(out, r.level(basin))
	}
	return out, api.OK
}

// Until returns the number of minutes after which a basin has first come to a level.
func Until(n api.Network, w api.Water, turns []api.Turn, q api.Target) (int, api.Errno) {
	r, e := newRun(n, w, turns)
	if e != api.OK {
		return 0, e
	}
	basin := findBasin(n, q.Basin)
	if basin < 0 {
		return 0, api.ErrMissing
	}
	if !isLevel(q.Level) || !r.lasts(q.Within) {
		return 0, api.ErrRange
	}
	for k := range q.Within + 1 {
		if k > 0 {
			r.minute()
		}
		level := r.level(basin)
		if q.Rising && level >= q.Level || !q.Rising && level <= q.Level {
			return k, api.OK
		}
	}
	return 0, api.ErrNone
}

// A run is a network whose state, in memory of its own, goes on minute by minute.
type run struct {
	network api.Network
	water   api.Water
	turns   []api.Turn
}

// newRun returns a run that begins with a state, or the first error of what it is made of.
func newRun(n api.Network, w api.Water, turns []api.Turn) (*run, api.Errno) {
	if e := waterError(n, w); e != api.OK {
		return nil, e
	}
	if e := turnsError(n, turns); e != api.OK {
		return nil, e
	}
	w.Litres, w.Open = slices.Clone(w.Litres), slices.Clone(w.Open)
	return &run{n, w, turns}, api.OK
}

// lasts reports whether a run may go on for so many minutes.
func (r *run) lasts(minutes int) bool {
	return common.Within(minutes, 0, api.MaxRun) && r.water.Minute+minutes <= api.MaxMinutes
}

func (r *run) level(basin int) int { return levelOf(r.network.Basins[basin], r.water.Litres[basin]) }

func (r *run) minutes(count int) {
	for range count {
		r.minute()
	}
}

// minute does the turns of a minute and then lets it pass, and returns what each link did.
func (r *run) minute() []int {
	for _, t := range r.turns {
		if t.Minute == r.water.Minute {
			r.water.Open[findLink(r.network, t.Link)] = t.Open
		}
	}
	flows := make([]int, len(r.network.Links))
	for i, l := range r.network.Links {
		flows[i] = flow(r.network, r.water, i)
		r.add(l.From, -flows[i])
		r.add(l.To, flows[i])
	}
	r.water.Minute++
	return flows
}

// add brings litres into a basin; the sea stays as it is.
func (r *run) add(name string, litres int) {
	if i := findBasin(r.network, name); i >= 0 {
		r.water.Litres[i] += litres
	}
}
