package exact

import "math/bits"

// commonDivisor returns the greatest common divisor, perhaps in the memory of an argument; that
// of 0 and b is b.
func commonDivisor(a, b []uint16) []uint16 {
	if len(a) < len(b) {
		a, b = b, a
	}
	if len(b) == 0 {
		return a
	}
	if isOne(b) {
		return b
	}
	if len(a) > len(b) {
		// one division saves taking the short number away from the long one bit by bit
		_, rest := divLimbs(a, b)
		if len(rest) == 0 {
			return b
		}
		a = rest
	}
	return unpack(binaryDivisor(pack(a), pack(b)))
}

// pack puts four limbs into each word.
func pack(l []uint16) []uint64 {
	out := make([]uint64, (len(l)+3)/4)
	for i, x := range l {
		out[i/4] |= uint64(x) << (16 * (i % 4))
	}
	return out
}

func unpack(w []uint64) []uint16 {
	out := make([]uint16, 4*len(w))
	for i := range out {
		out[i] = uint16(w[i/4] >> (16 * (i % 4)))
	}
	return trim(out)
}

// binaryDivisor needs no divisions: two odd numbers have an even difference, whose factors 2 do
// not matter. It uses up the memory of x and y, neither of which is 0.
func binaryDivisor(x, y []uint64) []uint64 {
	common := min(zeroBits(x), zeroBits(y))
	x, y = downBits(x, zeroBits(x)), downBits(y, zeroBits(y))
	for len(x) > 1 || len(y) > 1 {
		if lessWords(x, y) {
			x, y = y, x
		}
		takeWords(x, y)
		if x = trimWords(x); len(x) == 0 {
			return upBits(y, common)
		}
		x = downBits(x, zeroBits(x))
	}
	return upBits([]uint64{wordDivisor(x[0], y[0])}, common)
}

// wordDivisor is binaryDivisor of two odd words.
func wordDivisor(x, y uint64) uint64 {
	for x != y {
		if x < y {
			x, y = y, x
		}
		x -= y
		x >>= bits.TrailingZeros64(x)
	}
	return x
}

func trimWords(w []uint64) []uint64 {
	for len(w) > 0 && w[len(w)-1] == 0 {
		w = w[:len(w)-1]
	}
	return w
}

func lessWords(x, y []uint64) bool {
	if len(x) != len(y) {
		return len(x) < len(y)
	}
	for i := len(x) - 1; i >= 0; i-- {
		if x[i] != y[i] {
			return x[i] < y[i]
		}
	}
	return false
}

// takeWords subtracts y from x in its place; y is not greater.
func takeWords(x, y []uint64) {
	borrow := uint64(0)
	for i := range x {
		if i < len(y) {
			x[i], borrow = bits.Sub64(x[i], y[i], borrow)
		} else {
			x[i], borrow = bits.Sub64(x[i], 0, borrow)
		}
	}
}

// zeroBits counts the factors 2 of a number that is not 0.
func zeroBits(w []uint64) int {
	i := 0
	for w[i] == 0 {
		i++
	}
	return 64*i + bits.TrailingZeros64(w[i])
}

// downBits divides by 2^by in the same memory.
func downBits(w []uint64, by int) []uint64 {
	w = w[by/64:]
	low := by % 64
	for i := range w {
		w[i] >>= low
		if i+1 < len(w) {
			w[i] |= w[i+1] << (64 - low)
		}
	}
	return trimWords(w)
}

func upBits(w []uint64, by int) []uint64 {
	out := make([]uint64, by/64+len(w)+1)
	low := by % 64
	for i, x := range w {
		out[by/64+i] |= x << low
		out[by/64+i+1] |= x >> (64 - low)
	}
	return trimWords(out)
}
