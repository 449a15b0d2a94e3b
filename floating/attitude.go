package floating

import (
	"keelblock/api"
	"keelblock/common"
	"keelblock/exact"
	"keelblock/hull"
)

// Immersions returns the compressions of the supports at an attitude.
func Immersions(l []api.Support, a api.Attitude) ([]api.Rat, api.Errno) {
	return answers(l, compressionAt(a))
}

// Forces returns the forces of the supports at an attitude.
func Forces(l []api.Support, a api.Attitude) ([]api.Rat, api.Errno) {
	return answers(l, forceAt(a))
}

// Loaded returns the numbers of the supports that have a force.
func Loaded(l []api.Support, a api.Attitude) ([]int, api.Errno) {
	forces, e := Forces(l, a)
	if e != api.OK {
		return nil, e
	}
	var loaded []int
	for i, f := range forces {
		if common.Sign(f) != 0 {
			loaded = append(loaded, i)
		}
	}
	return loaded, api.OK
}

// Total returns the sum of the forces and of their moments.
func Total(l []api.Support, a api.Attitude) (api.Resultant, api.Errno) {
	forces, e := Forces(l, a)
	if e != api.OK {
		return api.Resultant{}, e
	}
	return api.Resultant{Force: common.Sum(forces), Moment: common.Sum(moments(l, forces))}, api.OK
}

// Capacity returns the most that the supports can carry together, if there is such a limit.
func Capacity(l []api.Support) (api.Rat, bool, api.Errno) {
	if e := Check(l); e != api.OK {
		return api.Rat{}, false, e
	}
	most, limited := total(limitsOf(l))
	return most, limited, api.OK
}

// Energy returns the energy of a body at an attitude.
func Energy(b api.Body, a api.Attitude) (api.Rat, api.Errno) {
	if e := CheckBody(b); e != api.OK {
		return api.Rat{}, e
	}
	stored, _ := answers(b.Supports, energyAt(a))
	sunk := exact.AddRat(a.Sink, exact.MulRat(a.Slope, b.At))
	return exact.SubRat(common.Sum(stored), common.Times(sunk, b.Weight)), api.OK
}

// Stiff returns the stiffness at an attitude.
func Stiff(l []api.Support, a api.Attitude) (api.Stiffness, api.Errno) {
	slopes, e := answers(l, slopeAt(a))
	if e != api.OK {
		return api.Stiffness{}, e
	}
	first := moments(l, slopes)
	return api.Stiffness{Heave: common.Sum(slopes), Cross: common.Sum(first), Pitch: common.Sum(moments(l, first))}, api.OK
}

// Centre returns the place at which a small load does not change the trim.
func Centre(l []api.Support, a api.Attitude) (api.Rat, api.Errno) {
	k, e := Stiff(l, a)
	if e != api.OK {
		return api.Rat{}, e
	}
	return exact.QuoRat(k.Cross, k.Heave)
}

// A question is what is asked of each support of a body at one attitude.
type question func(s api.Support) api.Rat

func compressionAt(a api.Attitude) question {
	return func(s api.Support) api.Rat { return exact.AddRat(s.C, hull.Immersion(a, s.X)) }
}

func forceAt(a api.Attitude) question { return curveAt(a, exact.Value) }

func slopeAt(a api.Attitude) question { return curveAt(a, exact.Slope) }

func energyAt(a api.Attitude) question { return curveAt(a, exact.Integral) }

// curveAt asks for what a function says of the curve of a support at its compression. A curve
// that is checked has no error.
func curveAt(a api.Attitude, says func(c api.Curve, y api.Rat) (api.Rat, api.Errno)) question {
	compression := compressionAt(a)
	return func(s api.Support) api.Rat {
		x, _ := says(s.Curve, compression(s))
		return x
	}
}

// answers returns what the supports answer, in their order.
func answers(l []api.Support, ask question) ([]api.Rat, api.Errno) {
	if e := Check(l); e != api.OK {
		return nil, e
	}
	out := make([]api.Rat, 0, len(l))
	for _, s := range l {
		out = append(out, ask(s))
	}
	return out, api.OK
}

// moments returns the products of numbers, one for each support, and the places of the supports.
func moments(l []api.Support, numbers []api.Rat) []api.Rat {
	out := make([]api.Rat, 0, len(l))
	for i, x := range numbers {
		out = append(out, common.Times(x, l[i].X))
	}
	return out
}
