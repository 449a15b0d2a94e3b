package floating

import (
	"slices"

	"keelblock/api"
	"keelblock/common"
	"keelblock/exact"
)

// Solve returns the equilibrium of a body, or a refusal.
func Solve(b api.Body) (api.Solution, api.Refusal, api.Errno) {
	f, p, r, e := settle(b)
	if e != api.OK {
		return api.Solution{}, r, e
	}
	if f.isLoose(p) {
		return api.Solution{}, api.Refusal{}, api.ErrLoose
	}
	return api.Solution{Attitude: f.attitude(p), Forces: f.forces(p)}, api.Refusal{}, api.OK
}

// Reactions returns the forces of the supports in all equilibria of a body.
func Reactions(b api.Body) ([]api.Rat, api.Errno) {
	f, p, _, e := settle(b)
	if e != api.OK {
		return nil, e
	}
	return f.forces(p), api.OK
}

// CheckSolution returns api.OK if s is an equilibrium of the body.
func CheckSolution(b api.Body, s api.Solution) api.Errno {
	if e := CheckBody(b); e != api.OK {
		return e
	}
	forces, _ := Forces(b.Supports, s.Attitude)
	if len(s.Forces) != len(forces) {
		return api.ErrProof
	}
	for i, f := range forces {
		if exact.CmpRat(s.Forces[i], f) != 0 {
			return api.ErrProof
		}
	}
	weight := common.Whole(b.Weight)
	balanced := exact.CmpRat(common.Sum(forces), weight) == 0 &&
		exact.CmpRat(common.Sum(moments(b.Supports, forces)), exact.MulRat(weight, b.At)) == 0
	if !balanced {
		return api.ErrProof
	}
	return api.OK
}

// settle returns an equilibrium of a body, as a spot on its bed; or a refusal and its error.
func settle(b api.Body) (f bed, p spot, r api.Refusal, e api.Errno) {
	if e := CheckBody(b); e != api.OK {
		return bed{}, spot{}, api.Refusal{}, e
	}
	if r, e := refusalOf(b, leversOf(b.Supports)); e != api.OK {
		return bed{}, spot{}, r, e
	}
	f = bedOf(b)
	return f, f.rest(), api.Refusal{}, api.OK
}

// rest finds a spot at which the bed carries the body; there must be one. For each slope there is
// a sink at which the force is the weight. The moment at these sinks never falls if the slope
// grows, as it is the derivative of the least energy for a slope, which is convex.
func (b bed) rest() spot {
	sink := common.Whole(0)
	var t tallies
	slope := root(common.Whole(0), func(slope api.Rat) probe {
		sink, t = b.sinkAt(slope, t.sinkFor(b.weight, slope, sink))
		return b.turning(t, spotOf(sink, slope))
	})
	return spotOf(sink, slope)
}

// sinkAt returns a sink at which the force at a slope is the weight, and the tallies there. The
// search for it begins at another one.
func (b bed) sinkAt(slope, begin api.Rat) (api.Rat, tallies) {
	var t tallies
	sink := root(begin, func(sink api.Rat) probe {
		p := spotOf(sink, slope)
		t = b.tally(p)
		return probe{
			sign:     p.compare(t.heave, t.cross, t.force, b.weight),
			guess:    t.sinkFor(b.weight, slope, sink),
			hasGuess: !isZero(t.heave),
		}
	})
	return sink, t
}

// sinkFor returns the sink at which the tallied pieces carry the weight at a slope, or another
// number if they have no stiffness.
func (t tallies) sinkFor(weight api.Int, slope, otherwise api.Rat) api.Rat {
	if isZero(t.heave) {
		return otherwise
	}
	left := exact.Mul(exact.Sub(weight, t.force), slope.Den)
	return quotient(exact.Sub(left, exact.Mul(t.cross, slope.Num)), exact.Mul(t.heave, slope.Den))
}

// turning tells which way the moment is wrong at a spot where the force is right, and guesses the
// slope at which the tallied pieces make both right.
func (b bed) turning(t tallies, p spot) probe {
	force, moment := exact.Sub(b.weight, t.force), exact.Sub(b.moment, t.moment)
	stiff := exact.Sub(exact.Mul(t.heave, t.pitch), exact.Mul(t.cross, t.cross))
	turn := exact.Sub(exact.Mul(t.heave, moment), exact.Mul(t.cross, force))
	out := probe{sign: p.compare(t.cross, t.pitch, t.moment, b.moment)}
	if !isZero(stiff) {
		out.guess, out.hasGuess = quotient(turn, stiff), true
	}
	return out
}

// isLoose reports whether the body can move without a change of any force: there are further
// equilibria just if it can, as all of them form a convex set in which no force changes. It can
// sink if no strip resists that, rise if none resists that, and turn about a place that parts the
// strips that resist sinking from those that resist rising.
func (b bed) isLoose(p spot) bool {
	var down, up []int
	for _, s := range b.strips {
		i, begins := s.piece(p)
		if s.isStiff(i) {
			down = append(down, s.place)
		}
		if begins {
			i--
		}
		if s.isStiff(i) {
			up = append(up, s.place)
		}
	}
	if len(down) == 0 || len(up) == 0 {
		return true
	}
	return slices.Max(down) <= slices.Min(up) || slices.Max(up) <= slices.Min(down)
}
