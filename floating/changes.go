package floating

import (
	"slices"

	"keelblock/api"
	"keelblock/common"
	"keelblock/exact"
)

// Raise returns the body with all its supports raised.
func Raise(b api.Body, by api.Rat) (api.Body, api.Errno) {
	if e := CheckBody(b); e != api.OK {
		return api.Body{}, e
	}
	out := duplicate(b)
	for i, s := range b.Supports {
		out.Supports[i].C = exact.AddRat(s.C, by)
	}
	return checked(out)
}

// Without returns the body without a support.
func Without(b api.Body, i int) (api.Body, api.Errno) {
	if e := CheckBody(b); e != api.OK {
		return api.Body{}, e
	}
	if !common.Within(i, 0, len(b.Supports)-1) {
		return api.Body{}, api.ErrMissing
	}
	out := duplicate(b)
	out.Supports = slices.Delete(out.Supports, i, i+1)
	return out, api.OK
}

// Add returns the body with a mass added.
func Add(b api.Body, mass, x int) (api.Body, api.Errno) {
	if e := common.FirstError(CheckBody(b), loadError(mass, x)); e != api.OK {
		return api.Body{}, e
	}
	moment := exact.AddRat(common.Times(b.At, b.Weight), common.Times(common.Whole(mass), x))
	out := duplicate(b)
	out.Weight += mass
	out.At = common.Over(moment, common.Whole(out.Weight))
	return checked(out)
}

// Trimmed returns the attitude of the body with a load, as the stiffness predicts it.
func Trimmed(b api.Body, s api.Solution, w api.Load) (api.Attitude, api.Errno) {
	if e := common.FirstError(CheckSolution(b, s), loadError(w.Mass, w.X)); e != api.OK {
		return api.Attitude{}, e
	}
	k, _ := Stiff(b.Supports, s.Attitude)
	mass := common.Whole(w.Mass)
	change, e := exact.Solve([][]api.Rat{{k.Heave, k.Cross}, {k.Cross, k.Pitch}}, []api.Rat{mass, common.Times(mass, w.X)})
	if e != api.OK {
		return api.Attitude{}, api.ErrZero
	}
	return api.Attitude{
		Sink:  exact.AddRat(s.Attitude.Sink, change[0]),
		Slope: exact.AddRat(s.Attitude.Slope, change[1]),
	}, api.OK
}

// loadError returns the error of a mass that is added.
func loadError(mass, x int) api.Errno {
	if !common.Within(mass, 0, api.MaxMass) || !common.IsPlace(x) {
		return api.ErrRange
	}
	return api.OK
}

// checked returns a body, or its error.
func checked(b api.Body) (api.Body, api.Errno) {
	if e := CheckBody(b); e != api.OK {
		return api.Body{}, e
	}
	return b, api.OK
}

// duplicate returns the same body in new memory, with normalized numbers.
func duplicate(b api.Body) api.Body {
	out := api.Body{Weight: b.Weight, At: common.Normal(b.At)}
	for _, s := range b.Supports {
		c := api.Curve{Starts: slices.Clone(s.Curve.Starts)}
		for _, k := range s.Curve.Slopes {
			c.Slopes = append(c.Slopes, common.Normal(k))
		}
		out.Supports = append(out.Supports, api.Support{X: s.X, C: common.Normal(s.C), Curve: c})
	}
	return out
}
