package water

import (
	"iter"
	"slices"

	"keelblock/api"
	"keelblock/common"
)

// Ballast returns the shortest list of moves to a state with the aim.
func Ballast(p api.Pontoon, l api.Limits, a api.Aim) ([]api.Move, api.Errno) {
	g, e := newGoal(p, l, a)
	if e != api.OK {
		return nil, e
	}
	if stateCount(p) > api.MaxStates {
		return nil, api.ErrLarge
	}
	if !g.keepsAll(g.start) {
		return nil, api.ErrLimit
	}
	moves, found := g.search()
	if !found {
		return nil, api.ErrNone
	}
	return moves, api.OK
}

// CheckBallast returns OK if the moves lead to a state with the aim.
func CheckBallast(p api.Pontoon, l api.Limits, a api.Aim, moves []api.Move) api.Errno {
	g, e := newGoal(p, l, a)
	if e != api.OK {
		return e
	}
	if len(moves) > api.MaxStates {
		return api.ErrLarge
	}
	if !g.keepsAll(g.start) {
		return api.ErrLimit
	}
	s := g.start
	for _, m := range moves {
		next, can := g.moved(s, m)
		if !can {
			return api.ErrRange
		}
		if !g.keepsAll(next) {
			return api.ErrLimit
		}
		s = next
	}
	if !g.reachedBy(s) {
		return api.ErrNone
	}
	return api.OK
}

// A goal is what a floating dock shall come to from a start.
type goal struct {
	dock
	start state
	mass  span // of the draughts that are wanted
}

// newGoal returns the error of the floating dock, of the limits, or of the aim.
func newGoal(p api.Pontoon, l api.Limits, a api.Aim) (goal, api.Errno) {
	d, e := newDock(p, l)
	if e != api.OK {
		return goal{}, e
	}
	if e := stepsError(p, a.Start); e != api.OK {
		return goal{}, e
	}
	if !isDraught(a.DraughtLeast) || !isDraught(a.DraughtMost) {
		return goal{}, api.ErrRange
	}
	return goal{d, stateOf(a.Start), massesFor(p, a.DraughtLeast, a.DraughtMost)}, api.OK
}

func (g goal) reachedBy(s state) bool { return g.mass.has(sumUp(g.pontoon, s).mass) }

// A reason is how the search came to a state.
type reason struct {
	before state
	move   api.Move
}

// search returns the shortest list of moves from the start, which keeps all limits. States are
// found in the order of the first shortest lists that lead to them, so that the first one that has
// the aim is that of the first list.
func (g goal) search() (moves []api.Move, found bool) {
	reasons := map[state]reason{g.start: {}}
	queue := []state{g.start}
	for i := 0; i < len(queue); i++ {
		s := queue[i]
		if g.reachedBy(s) {
			return g.way(s, reasons), true
		}
		for m := range g.moves() {
			next, can := g.moved(s, m)
			if !can {
				continue
			}
			if _, known := reasons[next]; known || !g.keepsAll(next) {
				continue
			}
			reasons[next] = reason{s, m}
			queue = append(queue, next)
		}
	}
	return nil, false
}

// way returns the moves by which the search came to a state.
func (g goal) way(end state, reasons map[state]reason) []api.Move {
	var out []api.Move
	for s := end; s != g.start; s = reasons[s].before {
		out = append(out, reasons[s].move)
	}
	slices.Reverse(out)
	return out
}

// moves goes through all moves in their order.
func (d dock) moves() iter.Seq[api.Move] {
	return func(yield func(api.Move) bool) {
		for t := range d.pontoon.Tanks {
			if !yield(api.Move{Tank: t, Up: true}) || !yield(api.Move{Tank: t}) {
				return
			}
		}
	}
}

// moved returns the state after a move, if the move is possible.
func (d dock) moved(s state, m api.Move) (next state, can bool) {
	tanks := d.pontoon.Tanks
	if !common.Within(m.Tank, 0, len(tanks)-1) {
		return state{}, false
	}
	by := -1
	if m.Up {
		by = 1
	}
	s[m.Tank] += by
	return s, common.Within(s[m.Tank], 0, tanks[m.Tank].Steps)
}

// stateCount returns the number of states of the tanks.
func stateCount(p api.Pontoon) int {
	count := 1
	for _, t := range p.Tanks {
		count *= t.Steps + 1
	}
	return count
}

// states goes through all states of the tanks.
func (d dock) states() iter.Seq[state] {
	return func(yield func(state) bool) {
		var s state
		for yield(s) {
			// counted up, as the digits of a number
			t, tanks := 0, d.pontoon.Tanks
			for t < len(tanks) && s[t] == tanks[t].Steps {
				s[t] = 0
				t++
			}
			if t == len(tanks) {
				return
			}
			s[t]++
		}
	}
}
