// Package common contains what several layers need to check and to compute, and no chapter
// describes by itself.
package common

import (
	"keelblock/api"
	"keelblock/exact"
)

// Within reports whether n is from least to most.
func Within(n, least, most int) bool { return least <= n && n <= most }

// IsPlace reports whether x can be a place along a ship.
func IsPlace(x int) bool { return Within(x, -api.MaxLength, api.MaxLength) }

// FirstError returns the first one that is not api.OK, or api.OK.
func FirstError(l ...api.Errno) api.Errno {
	for _, e := range l {
		if e != api.OK {
			return e
		}
	}
	return api.OK
}

// Whole returns n as a fraction.
func Whole(n int) api.Rat { return exact.Whole(exact.Of(n)) }

// Times returns x * n.
func Times(x api.Rat, n int) api.Rat { return exact.MulRat(x, Whole(n)) }

// Over returns x / y, where y is not 0.
func Over(x, y api.Rat) api.Rat {
	q, _ := exact.QuoRat(x, y)
	return q
}

// Ratio returns a / b, where b is not 0.
func Ratio(a, b int) api.Rat {
	q, _ := exact.Ratio(a, b)
	return q
}

// Product returns the product of all factors, which may be greater than an int.
func Product(factors ...int) api.Rat {
	p := exact.Of(1)
	for _, n := range factors {
		p = exact.Mul(p, exact.Of(n))
	}
	return exact.Whole(p)
}

// Normal returns the same number, normalized and in new memory.
func Normal(x api.Rat) api.Rat { return exact.AddRat(x, api.Rat{}) }

// Sum returns the sum of all numbers.
func Sum(l []api.Rat) api.Rat {
	total := Whole(0)
	for _, x := range l {
		total = exact.AddRat(total, x)
	}
	return total
}

// Sign returns -1, 0 or 1.
func Sign(x api.Rat) int { return exact.CmpRat(x, api.Rat{}) }
