package exact

import (
	"math/bits"
	"slices"
)

// The functions of this file work on absolute values: lists of limbs that end with no zero.
// Their results are new memory, unless they say otherwise.

// trim returns the list without the zeros at its end, in the same memory.
func trim(l []uint16) []uint16 {
	for len(l) > 0 && l[len(l)-1] == 0 {
		l = l[:len(l)-1]
	}
	return l
}

// limbsOf returns the limbs of a machine word.
func limbsOf(w uint64) []uint16 {
	var out []uint16
	if w != 0 {
		out = make([]uint16, 0, 4)
	}
	for ; w != 0; w >>= 16 {
		out = append(out, uint16(w))
	}
	return out
}

// wordOf returns the value of at most four limbs.
func wordOf(l []uint16) uint64 {
	w := uint64(0)
	for i, x := range l {
		w |= uint64(x) << (16 * i)
	}
	return w
}

func isOne(l []uint16) bool { return len(l) == 1 && l[0] == 1 }

func compareLimbs(a, b []uint16) int {
	if len(a) != len(b) {
		return direction(len(a) > len(b))
	}
	for i := len(a) - 1; i >= 0; i-- {
		if a[i] != b[i] {
			return direction(a[i] > b[i])
		}
	}
	return 0
}

func direction(greater bool) int {
	if greater {
		return 1
	}
	return -1
}

func addLimbs(a, b []uint16) []uint16 {
	if len(a) < len(b) {
		a, b = b, a
	}
	out := make([]uint16, len(a)+1)
	carry := uint32(0)
	for i, x := range a {
		carry += uint32(x)
		if i < len(b) {
			carry += uint32(b[i])
		}
		out[i] = uint16(carry)
		carry >>= 16
	}
	out[len(a)] = uint16(carry)
	return trim(out)
}

// subLimbs returns a - b, which must not be negative.
func subLimbs(a, b []uint16) []uint16 {
	out := make([]uint16, len(a))
	borrow := uint32(0)
	for i, x := range a {
		d := uint32(x) - borrow
		if i < len(b) {
			d -= uint32(b[i])
		}
		out[i] = uint16(d)
		borrow = d >> 31
	}
	return trim(out)
}

func mulLimbs(a, b []uint16) []uint16 {
	if len(a) <= 2 && len(b) <= 2 {
		return limbsOf(wordOf(a) * wordOf(b))
	}
	out := make([]uint16, len(a)+len(b))
	for i, x := range a {
		carry, part := uint32(0), out[i:][:len(b)]
		for j, y := range b {
			// the greatest product and two more limbs still fit
			carry += uint32(x)*uint32(y) + uint32(part[j])
			part[j] = uint16(carry)
			carry >>= 16
		}
		out[i+len(b)] = uint16(carry)
	}
	return trim(out)
}

// divLimbs returns the quotient and the remainder; b must not be 0.
func divLimbs(a, b []uint16) (q, r []uint16) {
	switch {
	case compareLimbs(a, b) < 0:
		return nil, slices.Clone(a)
	case len(a) <= 4:
		x, y := wordOf(a), wordOf(b)
		return limbsOf(x / y), limbsOf(x % y)
	case len(b) == 1:
		q = slices.Clone(a)
		rest := divideBy(q, b[0])
		return trim(q), limbsOf(uint64(rest))
	}
	return divLong(a, b)
}

// divideBy divides the list in its place and returns the remainder.
func divideBy(l []uint16, by uint16) uint16 {
	rest := uint32(0)
	for i := len(l) - 1; i >= 0; i-- {
		rest = rest<<16 | uint32(l[i])
		l[i] = uint16(rest / uint32(by))
		rest %= uint32(by)
	}
	return uint16(rest)
}

// divLong divides by at least two limbs, as one does on paper.
func divLong(a, b []uint16) (q, r []uint16) {
	// a divisor whose first bit is set makes the guess of a digit too great by 2 at most
	up := bits.LeadingZeros16(b[len(b)-1])
	v := shiftedUp(b, up)[:len(b)]
	u := shiftedUp(a, up)
	q = make([]uint16, len(a)-len(b)+1)
	for j := len(q) - 1; j >= 0; j-- {
		q[j] = digit(u[j:j+len(v)+1], v)
	}
	r = u[:len(v)]
	shiftDown(r, up)
	return trim(q), trim(r)
}

// shiftedUp returns l times 2^by, with one limb more than l; by is less than 16.
func shiftedUp(l []uint16, by int) []uint16 {
	out := make([]uint16, len(l)+1)
	carry := uint32(0)
	for i, x := range l {
		carry |= uint32(x) << by
		out[i] = uint16(carry)
		carry >>= 16
	}
	out[len(l)] = uint16(carry)
	return out
}

// shiftDown divides the list by 2^by in its place; by is less than 16.
func shiftDown(l []uint16, by int) {
	for i := range l {
		l[i] >>= by
		if i+1 < len(l) {
			l[i] |= l[i+1] << (16 - by)
		}
	}
}

// digit returns the quotient of u and v, which is less than 65536, and leaves the remainder in u.
func digit(u, v []uint16) uint16 {
	n := len(v)
	top := uint32(u[n])<<16 | uint32(u[n-1])
	guess, rest := top/uint32(v[n-1]), top%uint32(v[n-1])
	for guess > 65535 || guess*uint32(v[n-2]) > rest<<16|uint32(u[n-2]) {
		guess--
		rest += uint32(v[n-1])
		if rest > 65535 {
			break
		}
	}
	if takeProduct(u, v, guess) {
		guess--
		putBack(u, v)
	}
	return uint16(guess)
}

// takeProduct subtracts v times by from u and reports whether that was too much.
func takeProduct(u, v []uint16, by uint32) bool {
	carry, borrow, part := uint32(0), uint32(0), u[:len(v)]
	for i, y := range v {
		carry += by * uint32(y)
		d := uint32(part[i]) - carry&65535 - borrow
		part[i] = uint16(d)
		borrow = d >> 31
		carry >>= 16
	}
	d := uint32(u[len(v)]) - carry - borrow
	u[len(v)] = uint16(d)
	return d>>31 == 1
}

// putBack adds v to u, where the sum has no carry beyond u that counts.
func putBack(u, v []uint16) {
	carry := uint32(0)
	for i, y := range v {
		carry += uint32(u[i]) + uint32(y)
		u[i] = uint16(carry)
		carry >>= 16
	}
	u[len(v)] += uint16(carry)
}
