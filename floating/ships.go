package floating

import (
	"keelblock/api"
	"keelblock/hull"
)

// Weigh returns a ship as a body on supports.
func Weigh(s api.Ship, l []api.Support) (api.Body, api.Errno) {
	c, e := hull.Loads(s)
	if e != api.OK {
		return api.Body{}, e
	}
	b := api.Body{Weight: c.Mass, At: c.X, Supports: l}
	if e := CheckBody(b); e != api.OK {
		return api.Body{}, e
	}
	return duplicate(b), api.OK
}

// Float returns the equilibrium of a ship that is afloat.
func Float(s api.Ship, density int) (api.Solution, api.Refusal, api.Errno) {
	l, e := hull.Supports(s, density)
	if e != api.OK {
		return api.Solution{}, api.Refusal{}, e
	}
	b, e := Weigh(s, l)
	if e != api.OK {
		return api.Solution{}, api.Refusal{}, e
	}
	return Solve(b)
}
