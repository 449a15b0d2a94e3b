package floating

import (
	"sort"

	"keelblock/api"
	"keelblock/common"
	"keelblock/exact"
)

// A bed is a body with all its numbers as integers, which spares the search for an equilibrium
// most reductions of fractions: lengths and the slopes of curves are counted in parts that divide
// all those given, forces in parts of both.
type bed struct {
	lengths, slopes api.Int // how many parts make a unit
	weight, moment  api.Int // what is to be carried
	strips          []strip
}

// A strip is a support. Where its depth v, which is Sink + Slope * X without C, is from levels[i]
// to levels[i+1], its force is rises[i] * v + forces[i]: this is its piece with the number i.
type strip struct {
	place                 int
	x                     api.Int // the place again
	levels, rises, forces []api.Int
}

// A spot is an attitude: sink and slope are counted in parts of the parts of lengths.
type spot struct{ sink, slope, parts api.Int }

// Tallies are sums over the pieces at a spot. As long as all strips are in these pieces, the force
// is heave * sink + cross * slope + force, and the moment cross * sink + pitch * slope + moment.
type tallies struct{ heave, cross, pitch, force, moment api.Int }

func bedOf(b api.Body) bed {
	lengths, slopes := exact.Of(1), multiple(exact.Of(1), b.At)
	for _, s := range b.Supports {
		lengths = multiple(lengths, s.C)
		for _, k := range s.Curve.Slopes {
			slopes = multiple(slopes, k)
		}
	}
	weight := exact.Mul(exact.Mul(lengths, slopes), exact.Of(b.Weight))
	out := bed{lengths: lengths, slopes: slopes, weight: weight, moment: parts(b.At, weight)}
	for _, s := range b.Supports {
		out.strips = append(out.strips, stripOf(s, lengths, slopes))
	}
	return out
}

func stripOf(s api.Support, lengths, slopes api.Int) strip {
	out := strip{place: s.X, x: exact.Of(s.X)}
	above := parts(s.C, lengths)
	rise, force := api.Int{}, api.Int{}
	for i, start := range s.Curve.Starts {
		level := exact.Sub(exact.Mul(exact.Of(start), lengths), above)
		steeper := parts(s.Curve.Slopes[i], slopes)
		// both pieces agree at the level between them
		force = exact.Sub(force, exact.Mul(exact.Sub(steeper, rise), level))
		rise = steeper
		out.levels = append(out.levels, level)
		out.rises = append(out.rises, rise)
		out.forces = append(out.forces, force)
	}
	return out
}

// depth returns how deep the strip is at a spot, in its parts.
func (s strip) depth(p spot) api.Int { return exact.Add(p.sink, exact.Mul(p.slope, s.x)) }

// piece returns the number of the piece that the strip is in at a spot, and whether it begins just
// there; -1 is the one before the first level.
func (s strip) piece(p spot) (number int, begins bool) {
	// what is rounded off does not matter, as levels are integers
	deep, rest, _ := exact.DivMod(s.depth(p), p.parts)
	number = sort.Search(len(s.levels), func(i int) bool { return exact.Cmp(s.levels[i], deep) > 0 }) - 1
	return number, number >= 0 && isZero(rest) && exact.Cmp(s.levels[number], deep) == 0
}

// isStiff reports whether the force grows in a piece.
func (s strip) isStiff(piece int) bool { return piece >= 0 && !isZero(s.rises[piece]) }

// tally adds up the pieces of all strips at a spot.
func (b bed) tally(p spot) tallies {
	var t tallies
	for _, s := range b.strips {
		if i, _ := s.piece(p); i >= 0 {
			t.add(s.x, s.rises[i], s.forces[i])
		}
	}
	return t
}

func (t *tallies) add(x, rise, force api.Int) {
	cross := exact.Mul(rise, x)
	t.heave = exact.Add(t.heave, rise)
	t.cross = exact.Add(t.cross, cross)
	t.pitch = exact.Add(t.pitch, exact.Mul(cross, x))
	t.force = exact.Add(t.force, force)
	t.moment = exact.Add(t.moment, exact.Mul(force, x))
}

// spotOf puts a sink and a slope, which are normalized, over one denominator.
func spotOf(sink, slope api.Rat) spot {
	up, rest, _ := exact.DivMod(sink.Den, slope.Den)
	if isZero(rest) {
		return spot{sink.Num, exact.Mul(slope.Num, up), sink.Den}
	}
	return spot{exact.Mul(sink.Num, slope.Den), exact.Mul(slope.Num, sink.Den), exact.Mul(sink.Den, slope.Den)}
}

// compare returns the sign of bySink * sink + bySlope * slope + rest - wanted.
func (p spot) compare(bySink, bySlope, rest, wanted api.Int) int {
	moved := exact.Add(exact.Mul(bySink, p.sink), exact.Mul(bySlope, p.slope))
	return exact.Cmp(moved, exact.Mul(exact.Sub(wanted, rest), p.parts))
}

// attitude returns a spot in millimetres.
func (b bed) attitude(p spot) api.Attitude {
	unit := exact.Mul(p.parts, b.lengths)
	return api.Attitude{Sink: quotient(p.sink, unit), Slope: quotient(p.slope, unit)}
}

// forces returns the forces of all strips at a spot in kilograms.
func (b bed) forces(p spot) []api.Rat {
	unit := exact.Mul(p.parts, exact.Mul(b.lengths, b.slopes))
	out := make([]api.Rat, 0, len(b.strips))
	for _, s := range b.strips {
		force := api.Int{}
		if i, _ := s.piece(p); i >= 0 {
			force = exact.Add(exact.Mul(s.rises[i], s.depth(p)), exact.Mul(s.forces[i], p.parts))
		}
		out = append(out, quotient(force, unit))
	}
	return out
}

// quotient returns a / b, where b is not 0.
func quotient(a, b api.Int) api.Rat { return common.Over(exact.Whole(a), exact.Whole(b)) }

// multiple returns the least multiple of a by which x is an integer.
func multiple(a api.Int, x api.Rat) api.Int {
	// nothing is left over by the denominator 0, which stands for 1, either
	if _, rest, _ := exact.DivMod(a, x.Den); isZero(rest) {
		return a
	}
	return exact.Mul(a, quotient(common.Normal(x).Den, a).Num)
}

// parts returns x * unit, which is an integer.
func parts(x api.Rat, unit api.Int) api.Int {
	return exact.Floor(exact.MulRat(x, exact.Whole(unit)))
}

func isZero(a api.Int) bool { return exact.Cmp(a, api.Int{}) == 0 }
