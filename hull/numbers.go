package hull

import (
	"keelblock/api"
	"keelblock/exact"
)

func whole(n int) api.Rat { return exact.Whole(exact.Of(n)) }

// product returns the product of all factors, which may be greater than an int.
func product(factors ...int) api.Rat {
	p := exact.Of(1)
	for _, n := range factors {
		p = exact.Mul(p, exact.Of(n))
	}
	return exact.Whole(p)
}

// times returns x * n.
func times(x api.Rat, n int) api.Rat { return exact.MulRat(x, whole(n)) }

// over returns x / y, where y is not 0.
func over(x, y api.Rat) api.Rat {
	q, _ := exact.QuoRat(x, y)
	return q
}

// ratio returns a / b, where b is not 0.
func ratio(a, b int) api.Rat {
	q, _ := exact.Ratio(a, b)
	return q
}

func sign(x api.Rat) int { return exact.CmpRat(x, api.Rat{}) }
