package floating

import (
	"keelblock/api"
	"keelblock/common"
	"keelblock/exact"
)

// A probe is what is known of a nondecreasing function of linear pieces at a number: its sign
// there, and where the piece that begins or lies there would be 0, if it would.
type probe struct {
	sign     int
	guess    api.Rat
	hasGuess bool
}

// An edge is a number on one side of a root. It keeps its guess until that has been tried.
type edge struct {
	probe
	at    api.Rat
	known bool
}

// A bracket encloses a root from one side, or from both.
type bracket struct {
	low, high edge
	stride    api.Int
}

// root returns a number at which a function is 0; there must be one. A guess is right as soon as
// it is made on the piece that contains the root. As guesses alone can be long in coming there,
// some steps halve the bracket, until it contains no pieces but those of its edges.
func root(x api.Rat, ask func(x api.Rat) probe) api.Rat {
	b := bracket{stride: exact.Of(1)}
	for step := 1; ; step++ {
		p := ask(x)
		if p.sign == 0 {
			return x
		}
		newest, other := &b.low, &b.high
		if p.sign > 0 {
			newest, other = other, newest
		}
		*newest = edge{p, x, true}
		switch {
		case step%4 == 0:
			x = b.middle()
		case b.admits(newest):
			x = newest.take()
		case b.admits(other):
			x = other.take()
		default:
			x = b.middle()
		}
	}
}

// admits reports whether an edge has a guess, and this is within the bracket.
func (b *bracket) admits(e *edge) bool {
	return e.hasGuess &&
		(!b.low.known || exact.CmpRat(e.guess, b.low.at) > 0) &&
		(!b.high.known || exact.CmpRat(e.guess, b.high.at) < 0)
}

func (e *edge) take() api.Rat {
	e.hasGuess = false
	return e.guess
}

// middle returns a number within the bracket that has few digits. Where the bracket has no end,
// these numbers run away faster and faster.
func (b *bracket) middle() api.Rat {
	if b.low.known && b.high.known {
		return between(b.low.at, b.high.at)
	}
	away := b.stride
	b.stride = exact.Mul(away, exact.Of(4))
	if b.low.known {
		return exact.Whole(exact.Add(exact.Floor(b.low.at), away))
	}
	return exact.Whole(exact.Sub(exact.Floor(b.high.at), away))
}

// between returns a fraction near the middle of two others. Its denominator is great enough for
// such fractions to be less than half of low's distance from high apart.
func between(low, high api.Rat) api.Rat {
	parts := exact.Add(exact.Floor(common.Over(common.Whole(2), exact.SubRat(high, low))), exact.Of(1))
	middle := exact.MulRat(exact.AddRat(low, high), common.Ratio(1, 2))
	return quotient(exact.Nearest(exact.MulRat(middle, exact.Whole(parts))), parts)
}
