// Package exact is chapter 1: exact numbers, curves and linear inequalities. See shared/doc/01-exact.md.
package exact

import (
	"cmp"
	"slices"

	"keelblock/api"
)

// Of returns a machine integer.
func Of(n int) api.Int {
	if n < 0 {
		// also right for the least int, whose negation wraps around to itself
		return integer(true, limbsOf(uint64(-n)))
	}
	return integer(false, limbsOf(uint64(n)))
}

// Small returns an integer as an int, if it is one.
func Small(a api.Int) (int, bool) {
	l := size(a)
	if len(l) > 4 {
		return 0, false
	}
	w := wordOf(l)
	if a.Neg {
		if w > 1<<63 {
			return 0, false
		}
		return -int(w), true
	}
	if w >= 1<<63 {
		return 0, false
	}
	return int(w), true
}

// Add returns a + b.
func Add(a, b api.Int) api.Int { return addSigned(size(a), a.Neg, size(b), b.Neg) }

// Sub returns a - b.
func Sub(a, b api.Int) api.Int { return addSigned(size(a), a.Neg, size(b), !b.Neg) }

// Mul returns a * b.
func Mul(a, b api.Int) api.Int { return integer(a.Neg != b.Neg, mulLimbs(size(a), size(b))) }

// DivMod returns the quotient and the remainder, which is not negative.
func DivMod(a, b api.Int) (q, r api.Int, e api.Errno) {
	by := size(b)
	if len(by) == 0 {
		return api.Int{}, api.Int{}, api.ErrZero
	}
	whole, rest := divLimbs(size(a), by)
	if a.Neg && len(rest) > 0 {
		whole, rest = addLimbs(whole, limbsOf(1)), subLimbs(by, rest)
	}
	return integer(a.Neg != b.Neg, whole), integer(false, rest), api.OK
}

// Cmp returns the sign of a - b.
func Cmp(a, b api.Int) int {
	if s, t := sign(a), sign(b); s != t {
		return cmp.Compare(s, t)
	}
	if a.Neg {
		return compareLimbs(size(b), size(a))
	}
	return compareLimbs(size(a), size(b))
}

// size returns the limbs of the absolute value, in the memory of the argument.
func size(a api.Int) []uint16 { return trim(a.Limbs) }

func sign(a api.Int) int {
	if len(size(a)) == 0 {
		return 0
	}
	return direction(!a.Neg)
}

// integer keeps the limbs, which nobody else may hold.
func integer(neg bool, limbs []uint16) api.Int {
	if len(limbs) == 0 {
		return api.Int{}
	}
	return api.Int{Neg: neg, Limbs: limbs}
}

// duplicate returns the same number in new memory.
func duplicate(a api.Int) api.Int { return integer(a.Neg, slices.Clone(size(a))) }

// opposite shares its memory with the argument.
func opposite(a api.Int) api.Int { return api.Int{Neg: !a.Neg, Limbs: a.Limbs} }

func addSigned(a []uint16, aNeg bool, b []uint16, bNeg bool) api.Int {
	if aNeg == bNeg {
		return integer(aNeg, addLimbs(a, b))
	}
	if compareLimbs(a, b) < 0 {
		return integer(bNeg, subLimbs(b, a))
	}
	return integer(aNeg, subLimbs(a, b))
}

// quotient returns a / b where b divides a.
func quotient(a, b api.Int) api.Int {
	q, _ := divLimbs(size(a), size(b))
	return integer(a.Neg != b.Neg, q)
}
