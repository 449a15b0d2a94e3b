package exact

import (
	"slices"

	"keelblock/api"
)

// CheckRows returns the error of rows.
func CheckRows(n int, l []api.Row) api.Errno {
	if n < 0 || n > api.MaxVars {
		return api.ErrRange
	}
	if len(l) > api.MaxRows {
		return api.ErrLarge
	}
	for _, row := range l {
		if len(row.Coefs) > n {
			return api.ErrShape
		}
	}
	return api.OK
}

// Feasible returns a point that satisfies all rows, or multipliers that prove a contradiction.
func Feasible(n int, l []api.Row) (point, multipliers []api.Rat, e api.Errno) {
	if e := CheckRows(n, l); e != api.OK {
		return nil, nil, e
	}
	t := newTableau(make([]api.Rat, n), l)
	if bad := t.repair(); bad >= 0 {
		return nil, t.contradiction(bad), api.ErrNone
	}
	return t.point(), nil, api.OK
}

// Maximize returns the greatest value of an objective with a proof.
func Maximize(objective []api.Rat, l []api.Row) (api.Best, api.Errno) {
	if e := CheckRows(len(objective), l); e != api.OK {
		return api.Best{}, e
	}
	t := newTableau(objective, l)
	if bad := t.repair(); bad >= 0 {
		return api.Best{Multipliers: t.contradiction(bad)}, api.ErrNone
	}
	if loose := t.climb(); loose >= 0 {
		return api.Best{Point: t.ray(loose)}, api.ErrLoose
	}
	return api.Best{Value: t.value(), Point: t.point(), Multipliers: t.proof()}, api.OK
}

// CheckPoint checks that a point satisfies all rows.
func CheckPoint(l []api.Row, point []api.Rat) api.Errno {
	if e := CheckRows(len(point), l); e != api.OK {
		return e
	}
	if !satisfies(point, l) {
		return api.ErrProof
	}
	return api.OK
}

// CheckContradiction checks multipliers that prove a contradiction.
func CheckContradiction(n int, l []api.Row, multipliers []api.Rat) api.Errno {
	if e := CheckRows(n, l); e != api.OK {
		return e
	}
	if len(multipliers) != len(l) {
		return api.ErrShape
	}
	total := weighted(n, l, multipliers)
	if !noneNegative(multipliers) || !equal(total.Coefs, make([]api.Rat, n)) || ratSign(total.Bound) >= 0 {
		return api.ErrProof
	}
	return api.OK
}

// CheckBest checks a greatest value with its proof.
func CheckBest(objective []api.Rat, l []api.Row, b api.Best) api.Errno {
	if e := CheckRows(len(objective), l); e != api.OK {
		return e
	}
	if len(b.Point) != len(objective) || len(b.Multipliers) != len(l) {
		return api.ErrShape
	}
	if !satisfies(b.Point, l) || !noneNegative(b.Multipliers) {
		return api.ErrProof
	}
	total := weighted(len(objective), l, b.Multipliers)
	if CmpRat(dot(objective, b.Point), b.Value) != 0 || !equal(total.Coefs, objective) || CmpRat(total.Bound, b.Value) != 0 {
		return api.ErrProof
	}
	return api.OK
}

// Core returns the rows of an irreducible contradiction.
func Core(n int, l []api.Row) ([]int, api.Errno) {
	_, proof, e := Feasible(n, l)
	if e == api.OK {
		return nil, api.ErrNone
	}
	if e != api.ErrNone {
		return nil, e
	}
	left, numbers := slices.Clone(l), make([]int, len(l))
	for i := range numbers {
		numbers[i] = i
	}
	for i := 0; i < len(left); {
		rest := slices.Delete(slices.Clone(left), i, i+1)
		multipliers, contradictory := without(n, rest, proof, i)
		if !contradictory {
			i++
			continue
		}
		left, proof, numbers = rest, multipliers, slices.Delete(numbers, i, i+1)
	}
	return numbers, api.OK
}

// without reports whether the rows that are left without the row i are contradictory. A proof
// that did not need the row still holds, and saves a search.
func without(n int, rest []api.Row, proof []api.Rat, i int) (multipliers []api.Rat, contradictory bool) {
	if ratSign(proof[i]) == 0 {
		return slices.Delete(proof, i, i+1), true
	}
	_, multipliers, e := Feasible(n, rest)
	return multipliers, e == api.ErrNone
}

// dot returns the sum of the products of the first list with the beginning of the second one.
func dot(a, b []api.Rat) api.Rat {
	sum := newTotal()
	for i, x := range a {
		sum.add(product(x, b[i]))
	}
	return sum.value()
}

func satisfies(point []api.Rat, l []api.Row) bool {
	for _, row := range l {
		if CmpRat(dot(row.Coefs, point), row.Bound) > 0 {
			return false
		}
	}
	return true
}

func noneNegative(l []api.Rat) bool {
	return !slices.ContainsFunc(l, func(x api.Rat) bool { return ratSign(x) < 0 })
}

func equal(a, b []api.Rat) bool {
	return slices.EqualFunc(a, b, func(x, y api.Rat) bool { return CmpRat(x, y) == 0 })
}

// weighted returns the sum of the rows times their multipliers.
func weighted(n int, l []api.Row, multipliers []api.Rat) api.Row {
	total := api.Row{Coefs: make([]api.Rat, n)}
	for i, row := range l {
		for j, x := range row.Coefs {
			total.Coefs[j] = AddRat(total.Coefs[j], MulRat(multipliers[i], x))
		}
		total.Bound = AddRat(total.Bound, MulRat(multipliers[i], row.Bound))
	}
	return total
}
