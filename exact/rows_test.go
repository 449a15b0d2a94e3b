package exact_test

import (
	"math/big"
	"math/rand"
	"slices"
	"testing"

	"keelblock/api"
	"keelblock/exact"
)

// P1.5

func TestSolveOfExamples(t *testing.T) {
	x, e := exact.Solve([][]api.Rat{rats(1, 1), rats(1, -1)}, rats(3, 1))
	want(t, "Solve", []any{x, e}, []any{rats(2, 1), api.OK})
	x, e = exact.Solve([][]api.Rat{rats(0, 2), rats(-3, 0)}, rats(1, 1))
	want(t, "Solve with zeros on the diagonal", []any{x, e}, []any{[]api.Rat{rat(-1, 3), rat(1, 2)}, api.OK})
	x, e = exact.Solve([][]api.Rat{{rat(1, 2)}}, []api.Rat{{}})
	want(t, "Solve with the solution 0", []any{x, e}, []any{rats(0), api.OK})
	for _, none := range [][][]api.Rat{nil, {}} {
		x, e = exact.Solve(none, nil)
		want(t, "Solve of nothing", []any{x, e}, []any{[]api.Rat{}, api.OK})
	}
	for _, b := range [][]api.Rat{rats(3, 6), rats(3, 7), rats(0, 0)} {
		x, e = exact.Solve([][]api.Rat{rats(1, 1), rats(2, 2)}, b)
		wantError(t, "many solutions, or none", api.ErrNone, e, x)
	}
	x, e = exact.Solve([][]api.Rat{{{}}}, rats(0))
	wantError(t, "0 x = 0", api.ErrNone, e, x)
	x, e = exact.Solve([][]api.Rat{rats(1, 2, 3), rats(4, 5, 6), rats(7, 8, 9)}, rats(1, 2, 3))
	wantError(t, "dependent equations", api.ErrNone, e, x)
}

func TestSolveErrors(t *testing.T) {
	for _, x := range []struct {
		what string
		m    [][]api.Rat
		b    []api.Rat
	}{
		{"a row too short", [][]api.Rat{rats(1, 1), rats(1)}, rats(1, 1)},
		{"a row too long", [][]api.Rat{rats(1, 1), rats(1, 2, 3)}, rats(1, 1)},
		{"a right side too short", [][]api.Rat{rats(1, 1), rats(1, 2)}, rats(1)},
		{"a right side too long", [][]api.Rat{rats(1)}, rats(1, 1)},
		{"a right side of nothing", nil, rats(1)},
		{"a missing row", [][]api.Rat{rats(1, 1)}, rats(1)},
	} {
		y, e := exact.Solve(x.m, x.b)
		wantError(t, x.what, api.ErrShape, e, y)
	}
	unit := make([][]api.Rat, 41)
	for i := range unit {
		unit[i] = make([]api.Rat, 41)
		unit[i][i] = rat(2, 1)
	}
	y, e := exact.Solve(unit, make([]api.Rat, 41))
	wantError(t, "41 equations", api.ErrLarge, e, y)
	y, e = exact.Solve(make([][]api.Rat, 41), nil)
	wantError(t, "41 equations without numbers", api.ErrLarge, e, y)
	small := make([][]api.Rat, 40)
	for i := range small {
		small[i] = unit[i][:40]
	}
	y, e = exact.Solve(small, rats(make([]int, 40)...))
	want(t, "40 equations", []any{y, e}, []any{rats(make([]int, 40)...), api.OK})
}

func TestSolveAgainstProducts(t *testing.T) {
	r := rand.New(rand.NewSource(21))
	for i := range 400 {
		n := 1 + i%9
		m, x, b := make([][]api.Rat, n), make([]api.Rat, n), make([]api.Rat, n)
		for j := range x {
			x[j] = rat(r.Intn(19)-9, 1+r.Intn(5))
		}
		for j := range m {
			m[j] = randomRats(r, n, 2)
			b[j] = sumOfProducts(m[j], x)
		}
		y, e := exact.Solve(m, b)
		if e == api.ErrNone {
			continue
		}
		want(t, "Solve", []any{y, e}, []any{x, api.OK})
		y, e = exact.Solve(m, oddRats(b))
		want(t, "Solve of other representations", []any{y, e}, []any{x, api.OK})
	}
	// a matrix that is regular for sure: a row of it is never 0 on the diagonal of its triangle
	n := 40
	m, x, b := make([][]api.Rat, n), make([]api.Rat, n), make([]api.Rat, n)
	for j := range m {
		m[j], x[j] = make([]api.Rat, n), rat(j-7, 3)
		for k := range m[j] {
			m[j][k] = rat(min(j, k)+1, 1)
		}
	}
	for j := range m {
		b[j] = sumOfProducts(m[j], x)
	}
	y, e := exact.Solve(m, b)
	want(t, "Solve of 40 equations", []any{y, e}, []any{x, api.OK})
}

// randomRats are small numbers, many of them 0.
func randomRats(r *rand.Rand, n, den int) []api.Rat {
	out := make([]api.Rat, n)
	for i := range out {
		if r.Intn(3) > 0 {
			out[i] = rat(r.Intn(13)-6, 1+r.Intn(den))
		}
	}
	return out
}

func sumOfProducts(a, b []api.Rat) api.Rat {
	sum := new(big.Rat)
	for i, x := range a {
		sum.Add(sum, new(big.Rat).Mul(bigRat(x), bigRat(b[i])))
	}
	return plainRat(sum)
}

// P1.6

func TestCheckRows(t *testing.T) {
	long := make([]api.Row, 41)
	wide := []api.Row{row(1, 1), row(1, 1, 2)}
	for _, x := range []struct {
		what   string
		n      int
		l      []api.Row
		wanted api.Errno
	}{
		{"nothing", 0, nil, api.OK},
		{"12 unknowns", 12, []api.Row{{Coefs: make([]api.Rat, 12)}}, api.OK},
		{"40 rows", 3, long[:40], api.OK},
		{"fewer coefficients", 3, wide, api.OK},
		{"-1 unknowns", -1, nil, api.ErrRange},
		{"13 unknowns", 13, nil, api.ErrRange},
		{"13 unknowns and 41 rows", 13, long, api.ErrRange},
		{"41 rows", 0, long, api.ErrLarge},
		{"41 rows, one of them too wide", 1, append(slices.Clone(wide), long[:39]...), api.ErrLarge},
		{"a row too wide", 1, wide, api.ErrShape},
		{"a row without unknowns", 0, wide[:1], api.ErrShape},
	} {
		wantError(t, x.what, x.wanted, exact.CheckRows(x.n, x.l))
		if x.wanted != api.OK {
			wantRowsError(t, x.what, x.n, x.l, x.wanted)
		}
	}
}

// wantRowsError demands the error of CheckRows of all functions with rows.
func wantRowsError(t *testing.T, what string, n int, l []api.Row, wanted api.Errno) {
	t.Helper()
	p, m, e := exact.Feasible(n, l)
	wantError(t, "Feasible of "+what, wanted, e, p, m)
	c, e := exact.Core(n, l)
	wantError(t, "Core of "+what, wanted, e, c)
	wantError(t, "CheckContradiction of "+what, wanted, exact.CheckContradiction(n, l, rats(-1)))
	if n < 0 {
		return
	}
	b, e := exact.Maximize(make([]api.Rat, n), l)
	wantError(t, "Maximize of "+what, wanted, e, b)
	wantError(t, "CheckPoint of "+what, wanted, exact.CheckPoint(l, make([]api.Rat, n)))
	wantError(t, "CheckBest of "+what, wanted, exact.CheckBest(make([]api.Rat, n), l, api.Best{Multipliers: rats(-1)}))
}

func TestFeasibleOfExamples(t *testing.T) {
	for _, x := range []struct {
		what string
		n    int
		l    []api.Row
		ok   bool
	}{
		{"the example", 1, []api.Row{row(1, 1), row(-2, -1)}, false},
		{"one point", 2, []api.Row{row(4, 1, 1), row(-3, -1), row(-1, 0, -1)}, true},
		{"no rows", 12, nil, true},
		{"nothing", 0, nil, true},
		{"rows without unknowns", 0, []api.Row{row(0), row(3)}, true},
		{"a false row without unknowns", 0, []api.Row{row(0), {Bound: rat(-1, 9)}, row(-2)}, false},
		{"missing coefficients", 3, []api.Row{row(0), row(-1, 0, 0, 0)}, false},
		{"an equation that holds nowhere", 2, []api.Row{row(1, 2, 2), row(-3, -2, -2)}, false},
		{"an equation that holds on a line", 2, []api.Row{row(3, 2, 2), row(-3, -2, -2)}, true},
		{"three rows that need each other", 2, []api.Row{row(-2, -1, -1), row(0, 1), row(1, 0, 1)}, false},
	} {
		wantDecided(t, x.what, x.n, x.l)
		_, _, e := exact.Feasible(x.n, x.l)
		if (e == api.OK) != x.ok {
			t.Errorf("%s: Feasible returns %d", x.what, e)
		}
	}
	p, _, _ := exact.Feasible(2, []api.Row{row(4, 1, 1), row(-3, -1), row(-1, 0, -1)})
	want(t, "the only point", p, rats(3, 1))
}

// wantDecided demands a point or multipliers of Feasible, and that they prove what they say.
func wantDecided(t *testing.T, what string, n int, l []api.Row) {
	t.Helper()
	p, m, e := exact.Feasible(n, l)
	switch e {
	case api.OK:
		if len(p) != n || !inside(p, l) || len(m) > 0 {
			t.Errorf("%s: the point %v, multipliers %v", what, format(p), format(m))
		}
		wantError(t, what+": CheckPoint", api.OK, exact.CheckPoint(l, p))
	case api.ErrNone:
		wantContradiction(t, what, n, l, m)
		if len(p) > 0 {
			t.Errorf("%s: a point beside a contradiction", what)
		}
	default:
		t.Errorf("%s: Feasible returns %d", what, e)
	}
	wantNormal(t, what, p, m)
}

func wantContradiction(t *testing.T, what string, n int, l []api.Row, m []api.Rat) {
	t.Helper()
	coefs, bound := weightedSum(n, l, m)
	if !positive(m) || !slices.EqualFunc(coefs, make([]api.Rat, n), equalRats) || bound.Sign() >= 0 {
		t.Errorf("%s: the multipliers %v prove nothing", what, format(m))
	}
	wantError(t, what+": CheckContradiction", api.OK, exact.CheckContradiction(n, l, m))
}

func wantNormal(t *testing.T, what string, lists ...[]api.Rat) {
	t.Helper()
	for _, x := range slices.Concat(lists...) {
		want(t, what+": a number", x, plainRat(bigRat(x)))
	}
}

func equalRats(a, b api.Rat) bool { return bigRat(a).Cmp(bigRat(b)) == 0 }

func inside(p []api.Rat, l []api.Row) bool {
	return !slices.ContainsFunc(l, func(x api.Row) bool {
		return bigRat(sumOfProducts(x.Coefs, p)).Cmp(bigRat(x.Bound)) > 0
	})
}

func positive(m []api.Rat) bool {
	return !slices.ContainsFunc(m, func(x api.Rat) bool { return bigRat(x).Sign() < 0 })
}

// weightedSum is the sum of the rows times the multipliers.
func weightedSum(n int, l []api.Row, m []api.Rat) (coefs []api.Rat, bound *big.Rat) {
	coefs, bound = make([]api.Rat, n), new(big.Rat)
	for j := range coefs {
		sum := new(big.Rat)
		for i, x := range l {
			if j < len(x.Coefs) {
				sum.Add(sum, new(big.Rat).Mul(bigRat(x.Coefs[j]), bigRat(m[i])))
			}
		}
		coefs[j] = plainRat(sum)
	}
	for i, x := range l {
		bound.Add(bound, new(big.Rat).Mul(bigRat(x.Bound), bigRat(m[i])))
	}
	return coefs, bound
}

// P1.7

func TestMaximizeOfExamples(t *testing.T) {
	b, e := exact.Maximize(rats(1), []api.Row{row(3, 1), row(4, 2)})
	want(t, "Maximize", []any{b, e}, []any{api.Best{Value: rat(2, 1), Point: rats(2), Multipliers: []api.Rat{rat(0, 1), rat(1, 2)}}, api.OK})
	shop := []api.Row{row(4, 1, 1), row(6, 1, 3), row(3, 1), row(0, -1), row(0, 0, -1)}
	b, e = exact.Maximize(rats(3, 2), shop)
	want(t, "Maximize of a shop", []any{b.Value, b.Point, e}, []any{rat(11, 1), rats(3, 1), api.OK})
	b, e = exact.Maximize(nil, nil)
	want(t, "Maximize of nothing", []any{b, e}, []any{api.Best{Value: rat(0, 1)}, api.OK})
	b, e = exact.Maximize(nil, []api.Row{row(0), row(5)})
	want(t, "Maximize without unknowns", []any{b, e}, []any{api.Best{Value: rat(0, 1), Multipliers: rats(0, 0)}, api.OK})
	b, e = exact.Maximize(make([]api.Rat, 12), nil)
	want(t, "Maximize of 0 without rows", []any{b, e}, []any{api.Best{Value: rat(0, 1), Point: rats(make([]int, 12)...)}, api.OK})
	for _, x := range []struct {
		what   string
		c      []api.Rat
		l      []api.Row
		wanted api.Errno
	}{
		{"up without a limit", rats(1), []api.Row{row(0, -1)}, api.ErrLoose},
		{"down without a limit", rats(-1), []api.Row{row(0, 1)}, api.ErrLoose},
		{"no rows", rats(0, -2, 0), nil, api.ErrLoose},
		{"an unknown in no row", rats(1, 0, -1), []api.Row{row(3, 1), row(0, -1)}, api.ErrLoose},
		{"a line, along it", rats(1, -1), []api.Row{row(1, 1, 1), row(-1, -1, -1)}, api.ErrLoose},
		{"a line, across it", rats(-2, -2), []api.Row{row(1, 1, 1), row(-1, -1, -1)}, api.OK},
		{"a half plane, along its edge", rats(1, -1), []api.Row{row(1, 1, 1)}, api.ErrLoose},
		{"a half plane, to its edge", rats(3, 3), []api.Row{row(1, 2, 2)}, api.OK},
		{"a contradiction, without a limit", rats(0, 1), []api.Row{row(1, 1), row(-2, -1)}, api.ErrNone},
		{"a contradiction", rats(1), []api.Row{row(1, 1), row(-2, -1)}, api.ErrNone},
		{"a false row, without a limit", rats(1), []api.Row{row(-1)}, api.ErrNone},
		{"a value below 0", []api.Rat{rat(1, 3)}, []api.Row{{Coefs: []api.Rat{rat(2, 7)}, Bound: rat(-5, 11)}}, api.OK},
	} {
		wantBest(t, x.what, x.c, x.l)
		if _, e := exact.Maximize(x.c, x.l); e != x.wanted {
			t.Errorf("%s: Maximize returns %d, want %d", x.what, e, x.wanted)
		}
	}
}

// wantBest demands a result of Maximize that proves what it says, and nothing beside it.
func wantBest(t *testing.T, what string, c []api.Rat, l []api.Row) {
	t.Helper()
	b, e := exact.Maximize(c, l)
	wantNormal(t, what, b.Point, b.Multipliers)
	switch e {
	case api.OK:
		wantNormal(t, what, []api.Rat{b.Value})
		coefs, bound := weightedSum(len(c), l, b.Multipliers)
		if len(b.Point) != len(c) || !inside(b.Point, l) || !equalRats(sumOfProducts(c, b.Point), b.Value) {
			t.Errorf("%s: the point %v has not the value %s", what, format(b.Point), exact.FormatRat(b.Value))
		}
		if len(b.Multipliers) != len(l) || !positive(b.Multipliers) || !slices.EqualFunc(coefs, c, equalRats) || bound.Cmp(bigRat(b.Value)) != 0 {
			t.Errorf("%s: the multipliers %v do not prove %s", what, format(b.Multipliers), exact.FormatRat(b.Value))
		}
		wantError(t, what+": CheckBest", api.OK, exact.CheckBest(c, l, b))
	case api.ErrNone:
		wantContradiction(t, what, len(c), l, b.Multipliers)
		want(t, what, b, api.Best{Multipliers: b.Multipliers})
	case api.ErrLoose:
		wantRay(t, what, c, l, b.Point)
		want(t, what, b, api.Best{Point: b.Point})
	default:
		t.Errorf("%s: Maximize returns %d", what, e)
	}
}

// wantRay demands a ray, and that the rows are not contradictory.
func wantRay(t *testing.T, what string, c []api.Rat, l []api.Row, ray []api.Rat) {
	t.Helper()
	if _, _, e := exact.Feasible(len(c), l); e != api.OK {
		t.Errorf("%s: a ray of contradictory rows", what)
	}
	level := slices.Clone(l)
	for i := range level {
		level[i].Bound = api.Rat{}
	}
	if len(ray) != len(c) || !inside(ray, level) || bigRat(sumOfProducts(c, ray)).Sign() <= 0 {
		t.Errorf("%s: %v is no ray", what, format(ray))
	}
}

func TestMaximizeDoesNotGoInCircles(t *testing.T) {
	// Beale's example, on which the usual choice of columns comes back to where it was
	l := []api.Row{
		{Coefs: []api.Rat{rat(1, 4), rat(-60, 1), rat(-1, 25), rat(9, 1)}},
		{Coefs: []api.Rat{rat(1, 2), rat(-90, 1), rat(-1, 50), rat(3, 1)}},
		row(1, 0, 0, 1), row(0, -1), row(0, 0, -1), row(0, 0, 0, -1), row(0, 0, 0, 0, -1),
	}
	b, e := exact.Maximize([]api.Rat{rat(3, 4), rat(-150, 1), rat(1, 50), rat(-6, 1)}, l)
	want(t, "Beale", []any{b.Value, e}, []any{rat(1, 20), api.OK})
	// rows through one point, on which the least columns go in circles with the greatest lines
	through := []api.Row{
		row(0, 1, -2, -1, 0, 3), row(0, -1, -2, 1, -2, -1), row(0, -1, 2, 1, -3, 0), row(0, 1, -3, -1, 0, 0),
		row(0, 2, 1, -3, 2, 2), row(0, 3, -1, 3, -2, 3), row(0, 3, 0, -1, -3, -1),
	}
	wantBest(t, "rows through one point", rats(-1, -2, 2, -3, 2), through)
}

func TestMaximizeOfALongWay(t *testing.T) {
	// the cube of Klee and Minty, with corners that some choices of columns visit one and all
	n := 12
	c, l := make([]api.Rat, n), []api.Row{}
	for i := range n {
		up, down, bound := make([]int, n), make([]int, n), 1
		for j := range i {
			up[j] = 2 << (i - j)
		}
		up[i], down[i] = 1, -1
		for range i + 1 {
			bound *= 5
		}
		c[i] = rat(1<<(n-1-i), 1)
		l = append(l, row(bound, up...), row(0, down...))
	}
	wantBest(t, "Klee and Minty", c, l)
	b, _ := exact.Maximize(c, l)
	want(t, "its value", b.Value, rat(244140625, 1))
}

func randomRows(r *rand.Rand, n int) []api.Row {
	l := make([]api.Row, r.Intn(3*n+3))
	for i := range l {
		l[i] = api.Row{Coefs: randomRats(r, r.Intn(n+1), 3), Bound: rat(r.Intn(23)-6, 1+r.Intn(3))}
		if i > 0 && r.Intn(5) == 0 {
			// an equation, or the same row again
			l[i] = l[i-1]
			if r.Intn(2) == 0 {
				l[i] = opposite(l[i])
			}
		}
		if r.Intn(4) == 0 {
			l[i] = api.Row{Coefs: oddRats(l[i].Coefs), Bound: oddRat(l[i].Bound)}
		}
	}
	return l
}

func opposite(x api.Row) api.Row {
	out := api.Row{Bound: plainRat(new(big.Rat).Neg(bigRat(x.Bound)))}
	for _, c := range x.Coefs {
		out.Coefs = append(out.Coefs, plainRat(new(big.Rat).Neg(bigRat(c))))
	}
	return out
}

func TestRandomRows(t *testing.T) {
	r := rand.New(rand.NewSource(22))
	kinds := map[api.Errno]int{}
	for i := range 3000 {
		n := i % 7
		l := randomRows(r, n)
		wantDecided(t, "random rows", n, l)
		c := randomRats(r, n, 3)
		if len(l) > 1 && i%2 == 0 {
			c, _ = weightedSum(n, l[:2], rats(1, 2))
		}
		wantBest(t, "a random objective", c, l)
		_, e := exact.Maximize(c, l)
		kinds[e]++
	}
	for _, e := range []api.Errno{api.OK, api.ErrNone, api.ErrLoose} {
		if kinds[e] < 100 {
			t.Errorf("only %d of the random objectives have the result %d", kinds[e], e)
		}
	}
}

func TestLargestRows(t *testing.T) {
	r := rand.New(rand.NewSource(23))
	for i := range 6 {
		l := make([]api.Row, 40)
		for j := range l {
			l[j] = api.Row{Coefs: randomRats(r, 12, 4), Bound: rat(r.Intn(40)-i, 1)}
		}
		wantDecided(t, "40 rows", 12, l)
		c, _ := weightedSum(12, l[:3], rats(1, 2, 3))
		wantBest(t, "40 rows", c, l)
	}
}

// P1.8

func TestCheckPoint(t *testing.T) {
	l := []api.Row{row(4, 1, 1), row(-3, -1), row(-1, 0, -1)}
	wantError(t, "the point", api.OK, exact.CheckPoint(l, rats(3, 1)))
	wantError(t, "the point otherwise", api.OK, exact.CheckPoint(l, oddRats(rats(3, 1))))
	for _, p := range [][]api.Rat{rats(3, 2), rats(2, 1), rats(3, 0), {rat(3, 1), rat(1000001, 1000000)}} {
		wantError(t, "another point", api.ErrProof, exact.CheckPoint(l, p))
	}
	wantError(t, "a point that is too short", api.ErrShape, exact.CheckPoint(l, rats(3)))
	wantError(t, "a longer point", api.OK, exact.CheckPoint(l, rats(3, 1, 7)))
	wantError(t, "13 numbers", api.ErrRange, exact.CheckPoint(nil, make([]api.Rat, 13)))
	wantError(t, "no rows", api.OK, exact.CheckPoint(nil, nil))
	wantError(t, "a false row", api.ErrProof, exact.CheckPoint([]api.Row{row(-1)}, nil))
}

func TestCheckContradiction(t *testing.T) {
	l := []api.Row{row(1, 1), row(-2, -1), row(9, 1)}
	wantError(t, "multipliers", api.OK, exact.CheckContradiction(1, l, rats(1, 1, 0)))
	wantError(t, "greater ones", api.OK, exact.CheckContradiction(1, l, oddRats(rats(7, 7, 0))))
	for _, m := range [][]api.Rat{rats(0, 0, 0), rats(2, 1, 0), rats(0, 1, 1), rats(1, 2, 1), rats(2, 1, -1), rats(-1, -1, 0)} {
		wantError(t, "multipliers that prove nothing", api.ErrProof, exact.CheckContradiction(1, l, m))
	}
	wantError(t, "one too few", api.ErrShape, exact.CheckContradiction(1, l, rats(1, 1)))
	wantError(t, "one too many", api.ErrShape, exact.CheckContradiction(1, l, rats(1, 1, 0, 0)))
	wantError(t, "a sum that is 0", api.ErrProof, exact.CheckContradiction(1, []api.Row{row(2, 1), row(-2, -1)}, rats(1, 1)))
	wantError(t, "no rows", api.ErrProof, exact.CheckContradiction(3, nil, nil))
	wantError(t, "a negative multiplier of a row of zeros", api.ErrProof, exact.CheckContradiction(0, []api.Row{row(1)}, rats(-1)))
	wantError(t, "a negative 0", api.OK, exact.CheckContradiction(0, []api.Row{row(-1), row(0)}, []api.Rat{rat(1, 1), {Num: api.Int{Neg: true}}}))
}

func TestCheckBest(t *testing.T) {
	l := []api.Row{row(3, 1), row(0, 0, -1), row(5, 1, 1)}
	c := rats(1, 0)
	good := func() api.Best { return api.Best{Value: rat(3, 1), Point: rats(3, 1), Multipliers: rats(1, 0, 0)} }
	wantError(t, "a proof", api.OK, exact.CheckBest(c, l, good()))
	odd := good()
	odd.Value, odd.Point, odd.Multipliers = oddRat(odd.Value), oddRats(odd.Point), oddRats(odd.Multipliers)
	wantError(t, "the proof otherwise", api.OK, exact.CheckBest(c, l, odd))
	for _, x := range []struct {
		what   string
		change func(b *api.Best)
		wanted api.Errno
	}{
		{"a smaller value", func(b *api.Best) { b.Value, b.Point = rat(2, 1), rats(2, 1) }, api.ErrProof},
		{"another value", func(b *api.Best) { b.Value = rat(4, 1) }, api.ErrProof},
		{"a point outside", func(b *api.Best) { b.Point = rats(3, -1) }, api.ErrProof},
		{"a point behind a row", func(b *api.Best) { b.Value, b.Point = rat(4, 1), rats(4, 1) }, api.ErrProof},
		{"a point of a smaller value", func(b *api.Best) { b.Point = rats(2, 1) }, api.ErrProof},
		{"multipliers of another objective", func(b *api.Best) { b.Multipliers = rats(1, 5, 0) }, api.ErrProof},
		{"other multipliers", func(b *api.Best) { b.Multipliers = rats(0, 1, 1) }, api.ErrProof},
		{"no multipliers at all", func(b *api.Best) { b.Multipliers = rats(0, 0, 0) }, api.ErrProof},
		{"a negative multiplier", func(b *api.Best) { b.Multipliers = rats(2, -1, -1) }, api.ErrProof},
		{"a point too short", func(b *api.Best) { b.Point = rats(3) }, api.ErrShape},
		{"a point too long", func(b *api.Best) { b.Point = rats(3, 1, 0) }, api.ErrShape},
		{"a multiplier too few", func(b *api.Best) { b.Multipliers = rats(1, 0) }, api.ErrShape},
		{"a multiplier too many", func(b *api.Best) { b.Multipliers = rats(1, 0, 0, 0) }, api.ErrShape},
		{"shape before proof", func(b *api.Best) { b.Value, b.Point = rat(9, 1), nil }, api.ErrShape},
	} {
		b := good()
		x.change(&b)
		wantError(t, x.what, x.wanted, exact.CheckBest(c, l, b))
	}
	wantError(t, "nothing", api.OK, exact.CheckBest(nil, nil, api.Best{}))
	wantError(t, "a bound above the value", api.ErrProof, exact.CheckBest(rats(1), []api.Row{row(3, 1)}, api.Best{Value: rat(2, 1), Point: rats(2), Multipliers: rats(1)}))
	wantError(t, "-x + x", api.ErrProof, exact.CheckBest(rats(0), []api.Row{row(1, 1), row(-1, -1)}, api.Best{Point: rats(1), Multipliers: rats(-1, -1)}))
}

// P1.9

func TestCoreOfExamples(t *testing.T) {
	for _, x := range []struct {
		what   string
		n      int
		l      []api.Row
		wanted []int
	}{
		{"the example", 1, []api.Row{row(5, 1), row(1, 1), row(-2, -1)}, []int{1, 2}},
		{"the last ones stay", 0, []api.Row{row(1), row(-1), row(-2), row(3)}, []int{2}},
		{"the same row twice", 1, []api.Row{row(1, 1), row(-2, -1), row(1, 1), row(-2, -1)}, []int{2, 3}},
		{"a later pair", 1, []api.Row{row(1, 1), row(-2, -1), row(-9, 1)}, []int{1, 2}},
		{"three rows", 2, []api.Row{row(9, 1, 1), row(-2, -1, -1), row(0, 1), row(9, 0, -1), row(1, 0, 1)}, []int{1, 2, 4}},
	} {
		c, e := exact.Core(x.n, x.l)
		want(t, x.what, []any{c, e}, []any{x.wanted, api.OK})
	}
	for _, l := range [][]api.Row{nil, {row(5, 1)}, {row(2, 1), row(-2, -1)}} {
		c, e := exact.Core(1, l)
		wantError(t, "rows that are not contradictory", api.ErrNone, e, c)
	}
}

func TestRandomCores(t *testing.T) {
	r := rand.New(rand.NewSource(24))
	found := 0
	for i := range 1500 {
		n := i % 5
		l := randomRows(r, n)
		c, e := exact.Core(n, l)
		_, _, f := exact.Feasible(n, l)
		if f == api.OK {
			wantError(t, "Core", api.ErrNone, e, c)
			continue
		}
		found++
		want(t, "Core", []any{c, e}, []any{plainCore(n, l), api.OK})
		wantIrreducible(t, n, l, c)
	}
	if found < 100 {
		t.Errorf("only %d contradictions", found)
	}
}

// plainCore leaves out row by row, as P1.9 says.
func plainCore(n int, l []api.Row) []int {
	var left []int
	for i := range l {
		left = append(left, i)
	}
	for i := range l {
		rest := slices.DeleteFunc(slices.Clone(left), func(k int) bool { return k == i })
		if _, _, e := exact.Feasible(n, chosen(l, rest)); e == api.ErrNone {
			left = rest
		}
	}
	return left
}

func chosen(l []api.Row, numbers []int) []api.Row {
	var out []api.Row
	for _, k := range numbers {
		out = append(out, l[k])
	}
	return out
}

// P1.11

func wantIrreducible(t *testing.T, n int, l []api.Row, core []int) {
	t.Helper()
	if _, _, e := exact.Feasible(n, chosen(l, core)); e != api.ErrNone {
		t.Errorf("the rows %v of %v are not contradictory", core, l)
	}
	for i := range core {
		if _, _, e := exact.Feasible(n, chosen(l, slices.Delete(slices.Clone(core), i, i+1))); e != api.OK {
			t.Errorf("%v of %v are contradictory without %d", core, l, core[i])
		}
	}
}

func TestNoPointIsBetter(t *testing.T) {
	r := rand.New(rand.NewSource(25))
	for range 300 {
		l, c := randomRows(r, 2), randomRats(r, 2, 1)
		b, e := exact.Maximize(c, l)
		for x := -8; x <= 8; x++ {
			for y := -8; y <= 8; y++ {
				p := rats(x, y)
				if !inside(p, l) {
					continue
				}
				if e == api.ErrNone {
					t.Errorf("a point of contradictory rows: %d, %d", x, y)
				}
				if e == api.OK && exact.CmpRat(sumOfProducts(c, p), b.Value) > 0 {
					t.Errorf("a better point than %v: %d, %d", format(b.Point), x, y)
				}
			}
		}
	}
}
