package exact_test

import (
	"testing"

	"keelblock/api"
	"keelblock/exact"
)

// P1 and P2: what DOC.md's rules say of all functions.

func TestNumbersAreNew(t *testing.T) {
	ints := []api.Int{
		{}, {Neg: true, Limbs: []uint16{0, 0}}, {Limbs: []uint16{1}}, {Neg: true, Limbs: []uint16{7, 0}},
		{Limbs: []uint16{1, 2, 3}}, {Neg: true, Limbs: []uint16{0, 0, 0, 0, 9, 8, 7, 0}},
	}
	var fractions []api.Rat
	for _, a := range ints {
		wantOwn(t, "Small", exact.Small, a)
		wantOwn(t, "Format", exact.Format, a)
		wantOwn(t, "Whole", exact.Whole, a)
		for _, b := range ints {
			fractions = append(fractions, api.Rat{Num: a, Den: b})
			wantOwn(t, "Add", exact.Add, a, b)
			wantOwn(t, "Sub", exact.Sub, a, b)
			wantOwn(t, "Mul", exact.Mul, a, b)
			wantOwn(t, "DivMod", exact.DivMod, a, b)
			wantOwn(t, "Cmp", exact.Cmp, a, b)
		}
	}
	for _, x := range fractions {
		wantOwn(t, "Floor", exact.Floor, x)
		wantOwn(t, "Nearest", exact.Nearest, x)
		wantOwn(t, "FormatRat", exact.FormatRat, x)
		for _, y := range fractions {
			wantOwn(t, "AddRat", exact.AddRat, x, y)
			wantOwn(t, "SubRat", exact.SubRat, x, y)
			wantOwn(t, "MulRat", exact.MulRat, x, y)
			wantOwn(t, "QuoRat", exact.QuoRat, x, y)
			wantOwn(t, "CmpRat", exact.CmpRat, x, y)
		}
	}
	wantOwn(t, "Of", exact.Of, 1<<40)
	wantOwn(t, "Ratio", exact.Ratio, 6, 4)
	wantOwn(t, "Parse", exact.Parse, "-12345678901234567890")
	wantOwn(t, "ParseRat", exact.ParseRat, "-12345678901234567890/7")
}

func TestCurvesAreNew(t *testing.T) {
	one := api.Rat{Num: exact.Of(1), Den: exact.Of(1)}
	curves := []api.Curve{
		{}, pad(), {Starts: []int{-3, 4, 5}, Slopes: oddRats(rats(1, 1, 2))}, {Starts: []int{1, 2}, Slopes: []api.Rat{one, {}}},
	}
	for _, c := range curves {
		for _, y := range []api.Rat{{}, one, rat(4, 1), oddRat(rat(21, 2)), rat(-9, 2)} {
			wantOwn(t, "Value", exact.Value, c, y)
			wantOwn(t, "Slope", exact.Slope, c, y)
			wantOwn(t, "Integral", exact.Integral, c, y)
			wantOwn(t, "Reach", exact.Reach, c, y)
		}
		for _, d := range curves {
			wantOwn(t, "Sum", exact.Sum, c, d)
		}
		wantOwn(t, "CheckCurve", exact.CheckCurve, c)
		wantOwn(t, "Capacity", exact.Capacity, c)
		wantOwn(t, "Shift", exact.Shift, c, 0)
		wantOwn(t, "Shift", exact.Shift, c, 12)
	}
}

func TestRowsAreNew(t *testing.T) {
	wantOwn(t, "Solve", exact.Solve, [][]api.Rat{rats(0, 1), rats(2, 0)}, rats(0, 4))
	odd := []api.Row{{Coefs: oddRats(rats(1, 0)), Bound: oddRat(rat(3, 1))}, row(0, -1), row(2, 0, 1), {}}
	bad := append([]api.Row{row(-1, 1)}, odd...)
	for _, l := range [][]api.Row{nil, odd, odd[:1], odd[:3], bad, {row(-1)}} {
		for _, c := range [][]api.Rat{rats(0, 0), rats(1, 0), rats(-1, 1), oddRats(rats(0, 1)), rats(0, -1)} {
			wantOwn(t, "Feasible", exact.Feasible, 2, l)
			wantOwn(t, "Maximize", exact.Maximize, c, l)
			wantOwn(t, "Core", exact.Core, 2, l)
			wantOwn(t, "CheckRows", exact.CheckRows, 2, l)
			wantOwn(t, "CheckPoint", exact.CheckPoint, l, c)
			m := oddRats(rats(make([]int, len(l))...))
			wantOwn(t, "CheckContradiction", exact.CheckContradiction, 2, l, m)
			wantOwn(t, "CheckBest", exact.CheckBest, c, l, api.Best{Point: c, Multipliers: m})
		}
	}
}

func TestResultsDoNotDependOnEarlierCalls(t *testing.T) {
	l := []api.Row{row(4, 1, 1), row(6, 1, 3), row(3, 1), row(0, -1), row(0, 0, -1)}
	first, _ := exact.Maximize(rats(3, 2), l)
	exact.Maximize(rats(-1, 7), l)
	exact.Core(1, []api.Row{row(1, 1), row(-2, -1)})
	second, _ := exact.Maximize(rats(3, 2), l)
	want(t, "the same call", second, first)
}
