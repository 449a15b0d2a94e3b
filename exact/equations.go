package exact

import "keelblock/api"

// Solve returns the only solution of linear equations.
func Solve(m [][]api.Rat, b []api.Rat) ([]api.Rat, api.Errno) {
	if e := checkEquations(m, b); e != api.OK {
		return nil, e
	}
	rows := make([][]api.Int, len(m))
	for i := range m {
		rows[i], _ = cleared(m[i], b[i])
	}
	if !triangular(rows) {
		return nil, api.ErrNone
	}
	return solveUpward(rows), api.OK
}

func checkEquations(m [][]api.Rat, b []api.Rat) api.Errno {
	if len(m) > api.MaxRows {
		return api.ErrLarge
	}
	for _, row := range m {
		if len(row) != len(m) {
			return api.ErrShape
		}
	}
	if len(b) != len(m) {
		return api.ErrShape
	}
	return api.OK
}

// cleared returns the numbers and a last one behind them, times the least common multiple of
// their denominators, and this multiple.
func cleared(l []api.Rat, last api.Rat) (out []api.Int, scale api.Int) {
	scale = Of(1)
	all := append(append(make([]api.Rat, 0, len(l)+1), l...), last)
	for _, x := range all {
		_, den := parts(x)
		g := integer(false, commonDivisor(size(scale), size(den)))
		scale = Mul(scale, quotient(den, g))
	}
	out = make([]api.Int, len(all))
	for i, x := range all {
		num, den := parts(x)
		out[i] = Mul(num, quotient(scale, den))
	}
	return out, scale
}

// triangular makes the coefficients below the diagonal 0 and reports whether none on it is 0.
// Every number stays a minor of the matrix: so all divisions are exact, and no fractions arise.
func triangular(rows [][]api.Int) bool {
	before := Of(1)
	for k := range rows {
		if !lift(rows, k) {
			return false
		}
		pivot := rows[k][k]
		for i := k + 1; i < len(rows); i++ {
			for j := k + 1; j < len(rows[i]); j++ {
				rows[i][j] = crossed(pivot, rows[i][j], rows[i][k], rows[k][j], before)
			}
			rows[i][k] = api.Int{}
		}
		before = pivot
	}
	return true
}

// lift brings a row to the place k whose coefficient there is not 0.
func lift(rows [][]api.Int, k int) bool {
	for i := k; i < len(rows); i++ {
		if sign(rows[i][k]) != 0 {
			rows[i], rows[k] = rows[k], rows[i]
			return true
		}
	}
	return false
}

// crossed returns (p x - q y) / d, which is an integer.
func crossed(p, x, q, y, d api.Int) api.Int {
	return quotient(Sub(Mul(p, x), Mul(q, y)), d)
}

// solveUpward solves equations that triangular left. The unknowns times the determinant, which
// is the last number on the diagonal, are integers.
func solveUpward(rows [][]api.Int) []api.Rat {
	n := len(rows)
	out, scaled := make([]api.Rat, n), make([]api.Int, n)
	for i := n - 1; i >= 0; i-- {
		det := rows[n-1][n-1]
		left := Mul(det, rows[i][n])
		for j := i + 1; j < n; j++ {
			left = Sub(left, Mul(rows[i][j], scaled[j]))
		}
		scaled[i] = quotient(left, rows[i][i])
		out[i] = fraction(duplicate(scaled[i]), duplicate(det))
	}
	return out
}
