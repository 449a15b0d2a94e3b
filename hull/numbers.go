package hull

import (
	"keelblock/api"
	"keelblock/exact"
)

// product returns the product of all factors, which may be greater than an int.
func product(factors ...int) api.Rat {
	p := exact.Of(1)
	for _, n := range factors {
		p = exact.Mul(p, exact.Of(n))
	}
	return exact.Whole(p)
}
