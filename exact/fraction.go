package exact

import "keelblock/api"

// Ratio returns a/b.
func Ratio(a, b int) (api.Rat, api.Errno) {
	if b == 0 {
		return api.Rat{}, api.ErrZero
	}
	return fraction(Of(a), Of(b)), api.OK
}

// Whole returns an integer as a fraction.
func Whole(a api.Int) api.Rat {
	return api.Rat{Num: duplicate(a), Den: Of(1)}
}

// AddRat returns x + y.
func AddRat(x, y api.Rat) api.Rat { return combine(x, y, Add) }

// SubRat returns x - y.
func SubRat(x, y api.Rat) api.Rat { return combine(x, y, Sub) }

// MulRat returns x * y.
func MulRat(x, y api.Rat) api.Rat {
	p := product(x, y)
	return fraction(p.Num, p.Den)
}

// QuoRat returns x / y.
func QuoRat(x, y api.Rat) (api.Rat, api.Errno) {
	a, b := parts(x)
	c, d := parts(y)
	if sign(c) == 0 {
		return api.Rat{}, api.ErrZero
	}
	return fraction(Mul(a, d), Mul(b, c)), api.OK
}

// CmpRat returns the sign of x - y.
func CmpRat(x, y api.Rat) int {
	a, b := parts(x)
	c, d := parts(y)
	if compareLimbs(size(b), size(d)) == 0 || sign(a) != sign(c) {
		return Cmp(a, c)
	}
	return Cmp(Mul(a, d), Mul(c, b))
}

// Floor returns the greatest integer that is at most x.
func Floor(x api.Rat) api.Int {
	q, _, _ := DivMod(parts(x))
	return q
}

// Nearest returns the nearest integer.
func Nearest(x api.Rat) api.Int {
	a, b := parts(x)
	q, _, _ := DivMod(Add(Add(a, a), b), Add(b, b))
	return q
}

// parts returns a numerator and a positive denominator, perhaps not in lowest terms, in the
// memory of the argument.
func parts(x api.Rat) (num, den api.Int) {
	switch sign(x.Den) {
	case 0:
		return x.Num, Of(1)
	case -1:
		return opposite(x.Num), opposite(x.Den)
	}
	return x.Num, x.Den
}

// fraction returns num / den in lowest terms. It may keep the limbs of both, which nobody else
// may hold; den is not 0.
func fraction(num, den api.Int) api.Rat {
	n, d := size(num), size(den)
	if g := commonDivisor(n, d); !isOne(g) {
		n, _ = divLimbs(n, g)
		d, _ = divLimbs(d, g)
	}
	return api.Rat{Num: integer(num.Neg != den.Neg, n), Den: integer(false, d)}
}

// normal returns the normalized fraction of the same value, in new memory.
func normal(x api.Rat) api.Rat {
	a, b := parts(x)
	return fraction(duplicate(a), duplicate(b))
}

// combine returns the sum or the difference, as add of the numerators says.
func combine(x, y api.Rat, add func(a, b api.Int) api.Int) api.Rat {
	a, b := parts(x)
	c, d := parts(y)
	if compareLimbs(size(b), size(d)) == 0 {
		return fraction(add(a, c), duplicate(b))
	}
	return fraction(add(Mul(a, d), Mul(c, b)), Mul(b, d))
}

// number returns a machine integer as a fraction.
func number(n int) api.Rat { return api.Rat{Num: Of(n), Den: Of(1)} }

func ratSign(x api.Rat) int {
	num, _ := parts(x)
	return sign(num)
}

// product returns x * y, perhaps not in lowest terms, for sums that are reduced at their end.
func product(x, y api.Rat) api.Rat {
	a, b := parts(x)
	c, d := parts(y)
	return api.Rat{Num: Mul(a, c), Den: Mul(b, d)}
}

// A total adds up fractions over the least common multiple of their denominators: numbers that
// have the same denominator need no divisor before the end.
type total struct{ num, den api.Int }

func newTotal() *total { return &total{den: Of(1)} }

func (t *total) add(x api.Rat) {
	num, den := parts(x)
	if compareLimbs(size(den), size(t.den)) != 0 {
		g := integer(false, commonDivisor(size(den), size(t.den)))
		up := quotient(den, g)
		num = Mul(num, quotient(t.den, g))
		t.num, t.den = Mul(t.num, up), Mul(t.den, up)
	}
	t.num = Add(t.num, num)
}

// value gives the memory of the total away: it is the last use of it.
func (t *total) value() api.Rat { return fraction(t.num, t.den) }
