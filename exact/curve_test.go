package exact_test

import (
	"math"
	"math/big"
	"math/rand"
	"slices"
	"testing"

	"keelblock/api"
	"keelblock/exact"
)

// P1.4

func pad() api.Curve { return api.Curve{Starts: []int{0, 10}, Slopes: rats(2, 0)} }

func TestCheckCurve(t *testing.T) {
	many := api.Curve{}
	for i := range 41 {
		many.Starts, many.Slopes = append(many.Starts, i), append(many.Slopes, rat(i+1, 1))
	}
	fewer := api.Curve{Starts: many.Starts[:40], Slopes: many.Slopes[:40]}
	for _, x := range []struct {
		what   string
		c      api.Curve
		wanted api.Errno
	}{
		{"nothing", api.Curve{}, api.OK},
		{"40 starts", fewer, api.OK},
		{"the farthest starts", api.Curve{Starts: []int{-10000000, 10000000}, Slopes: rats(0, 0)}, api.OK},
		{"a slope that is a negative 0", api.Curve{Starts: []int{1}, Slopes: []api.Rat{{Num: api.Int{Neg: true}}}}, api.OK},
		{"a slope -1/-1", api.Curve{Starts: []int{1}, Slopes: []api.Rat{{Num: exact.Of(-1), Den: exact.Of(-1)}}}, api.OK},
		{"41 starts", many, api.ErrLarge},
		{"41 starts without slopes", api.Curve{Starts: many.Starts}, api.ErrLarge},
		{"a slope too few", api.Curve{Starts: []int{1}}, api.ErrShape},
		{"a slope too many", api.Curve{Slopes: rats(1)}, api.ErrShape},
		{"41 slopes", api.Curve{Starts: many.Starts[:40], Slopes: many.Slopes}, api.ErrShape},
		{"shape before range", api.Curve{Starts: []int{1, 20000000}, Slopes: rats(-1)}, api.ErrShape},
		{"a start too small", api.Curve{Starts: []int{-10000001}, Slopes: rats(1)}, api.ErrRange},
		{"a start too great", api.Curve{Starts: []int{10000001}, Slopes: rats(1)}, api.ErrRange},
		{"the least int", api.Curve{Starts: []int{math.MinInt}, Slopes: rats(1)}, api.ErrRange},
		{"a slope below 0", api.Curve{Starts: []int{1}, Slopes: rats(-1)}, api.ErrRange},
		{"a slope 1/-1", api.Curve{Starts: []int{1}, Slopes: []api.Rat{{Num: exact.Of(1), Den: exact.Of(-1)}}}, api.ErrRange},
		{"range before order", api.Curve{Starts: []int{1, 1}, Slopes: rats(1, -2)}, api.ErrRange},
		{"the same start", api.Curve{Starts: []int{1, 1}, Slopes: rats(1, 2)}, api.ErrOrder},
		{"a start before", api.Curve{Starts: []int{1, 0}, Slopes: rats(1, 2)}, api.ErrOrder},
		{"the first start decides", api.Curve{Starts: []int{1, 1, 2}, Slopes: rats(1, 2, -1)}, api.ErrOrder},
	} {
		wantCurveError(t, x.what, x.c, x.wanted)
	}
}

// wantCurveError demands the error of CheckCurve, and of all functions with a curve.
func wantCurveError(t *testing.T, what string, c api.Curve, wanted api.Errno) {
	t.Helper()
	wantError(t, what, wanted, exact.CheckCurve(c))
	if wanted == api.OK {
		return
	}
	v, e := exact.Value(c, rat(1, 1))
	wantError(t, "Value of "+what, wanted, e, v)
	v, e = exact.Slope(c, rat(1, 1))
	wantError(t, "Slope of "+what, wanted, e, v)
	v, e = exact.Integral(c, rat(1, 1))
	wantError(t, "Integral of "+what, wanted, e, v)
	v, e = exact.Reach(c, rat(-1, 1))
	wantError(t, "Reach of "+what, wanted, e, v)
	v, is, e := exact.Capacity(c)
	wantError(t, "Capacity of "+what, wanted, e, v, is)
	s, e := exact.Shift(c, math.MaxInt)
	wantError(t, "Shift of "+what, wanted, e, s)
	s, e = exact.Sum(c, api.Curve{Starts: []int{1}})
	wantError(t, "Sum of "+what, wanted, e, s)
	s, e = exact.Sum(pad(), c)
	wantError(t, "Sum with "+what, wanted, e, s)
}

func TestCurveOfExamples(t *testing.T) {
	c := pad()
	for _, x := range []struct{ y, value, slope, integral api.Rat }{
		{rat(-5, 1), rat(0, 1), rat(0, 1), rat(0, 1)},
		{rat(0, 1), rat(0, 1), rat(2, 1), rat(0, 1)},
		{rat(-1, 1000), rat(0, 1), rat(0, 1), rat(0, 1)},
		{rat(1, 3), rat(2, 3), rat(2, 1), rat(1, 9)},
		{rat(5, 1), rat(10, 1), rat(2, 1), rat(25, 1)},
		{rat(99, 10), rat(99, 5), rat(2, 1), rat(9801, 100)},
		{rat(10, 1), rat(20, 1), rat(0, 1), rat(100, 1)},
		{rat(12, 1), rat(20, 1), rat(0, 1), rat(140, 1)},
	} {
		v, e := exact.Value(c, x.y)
		want(t, "Value", []any{v, e}, []any{x.value, api.OK})
		v, e = exact.Slope(c, x.y)
		want(t, "Slope", []any{v, e}, []any{x.slope, api.OK})
		v, e = exact.Integral(c, x.y)
		want(t, "Integral", []any{v, e}, []any{x.integral, api.OK})
	}
	huge := api.Rat{Num: api.Int{Limbs: []uint16{0, 0, 0, 0, 0, 1}}}
	v, e := exact.Value(c, huge)
	want(t, "Value far behind", []any{v, e}, []any{rat(20, 1), api.OK})
	huge.Num.Neg = true
	v, e = exact.Value(c, huge)
	want(t, "Value far before", []any{v, e}, []any{rat(0, 1), api.OK})
	v, e = exact.Slope(api.Curve{}, huge)
	want(t, "Slope of nothing", []any{v, e}, []any{rat(0, 1), api.OK})
	v, e = exact.Integral(api.Curve{}, rat(7, 1))
	want(t, "Integral of nothing", []any{v, e}, []any{rat(0, 1), api.OK})
}

func TestSumOfCurves(t *testing.T) {
	s, e := exact.Sum(pad(), api.Curve{Starts: []int{10}, Slopes: rats(2)})
	want(t, "Sum of the example", []any{s, e}, []any{api.Curve{Starts: []int{0}, Slopes: rats(2)}, api.OK})
	s, e = exact.Sum(api.Curve{Starts: []int{1, 3, 4}, Slopes: []api.Rat{{}, rat(1, 2), {Num: exact.Of(2), Den: exact.Of(4)}}}, api.Curve{})
	want(t, "Sum with nothing is normalized", []any{s, e}, []any{api.Curve{Starts: []int{3}, Slopes: []api.Rat{rat(1, 2)}}, api.OK})
	s, e = exact.Sum(api.Curve{}, api.Curve{Starts: []int{5}, Slopes: rats(0)})
	want(t, "Sum of zeros", []any{s, e}, []any{api.Curve{}, api.OK})
	a, b, flat, other := api.Curve{}, api.Curve{}, api.Curve{}, api.Curve{}
	for i := range 40 {
		a.Starts, a.Slopes = append(a.Starts, i), append(a.Slopes, rat(1-i%2, 1))
		b.Starts, b.Slopes = append(b.Starts, i), append(b.Slopes, rat(i%2, 1))
		flat.Starts, flat.Slopes = append(flat.Starts, 100+i), append(flat.Slopes, rat(3, 1))
	}
	s, e = exact.Sum(a, b)
	want(t, "Sum of curves whose bends cancel out", []any{s, e}, []any{api.Curve{Starts: []int{0}, Slopes: rats(1)}, api.OK})
	straight := api.Curve{Starts: a.Starts, Slopes: rats(make([]int, 40)...)}
	s, e = exact.Sum(straight, flat)
	want(t, "Sum of 80 starts that needs one", []any{s, e}, []any{api.Curve{Starts: []int{100}, Slopes: rats(3)}, api.OK})
	other.Starts, other.Slopes = slices.Clone(a.Starts), slices.Clone(a.Slopes)
	s, e = exact.Sum(a, other)
	want(t, "Sum of 40 starts", []any{len(s.Starts), e}, []any{40, api.OK})
	other.Starts[39] = 50
	s, e = exact.Sum(a, other)
	wantError(t, "Sum of 41 starts", api.ErrLarge, e, s)
}

func TestShift(t *testing.T) {
	s, e := exact.Shift(pad(), 5)
	want(t, "Shift of the example", []any{s, e}, []any{api.Curve{Starts: []int{5, 15}, Slopes: rats(2, 0)}, api.OK})
	c := api.Curve{Starts: []int{1, 2, 3}, Slopes: []api.Rat{{}, {Num: exact.Of(-6), Den: exact.Of(-4)}, rat(3, 2)}}
	s, e = exact.Shift(c, 9999998)
	want(t, "Shift to the end", []any{s, e}, []any{api.Curve{Starts: []int{10000000}, Slopes: []api.Rat{rat(3, 2)}}, api.OK})
	s, e = exact.Shift(c, -10000002)
	want(t, "Shift to the beginning", []any{s, e}, []any{api.Curve{Starts: []int{-10000000}, Slopes: []api.Rat{rat(3, 2)}}, api.OK})
	for _, by := range []int{9999999, -10000003, math.MaxInt, math.MinInt} {
		s, e = exact.Shift(c, by)
		wantError(t, "Shift too far", api.ErrRange, e, s)
		s, e = exact.Shift(api.Curve{Starts: []int{-5, 9}, Slopes: []api.Rat{{}, {Num: api.Int{Neg: true}}}}, by)
		want(t, "Shift of 0", []any{s, e}, []any{api.Curve{}, api.OK})
	}
	s, e = exact.Shift(pad(), 9999991)
	wantError(t, "Shift of the last start too far", api.ErrRange, e, s)
	s, e = exact.Shift(pad(), -10000001)
	wantError(t, "Shift of the first start too far", api.ErrRange, e, s)
}

func TestReachAndCapacity(t *testing.T) {
	c := api.Curve{Starts: []int{0, 10, 20, 30}, Slopes: rats(2, 0, 1, 0)}
	for _, x := range [][2]api.Rat{
		{rat(1, 2), rat(1, 4)}, {rat(20, 1), rat(10, 1)}, {rat(41, 2), rat(41, 2)}, {rat(30, 1), rat(30, 1)},
	} {
		y, e := exact.Reach(c, x[0])
		want(t, "Reach", []any{y, e}, []any{x[1], api.OK})
	}
	y, e := exact.Reach(c, rat(3001, 100))
	wantError(t, "Reach above the capacity", api.ErrNone, e, y)
	y, e = exact.Reach(api.Curve{}, rat(1, 1))
	wantError(t, "Reach of nothing", api.ErrNone, e, y)
	for _, v := range []api.Rat{{}, rat(0, 1), rat(-1, 2), {Num: exact.Of(1), Den: exact.Of(-2)}, {Num: api.Int{Neg: true}}} {
		y, e = exact.Reach(c, v)
		wantError(t, "Reach of what is not positive", api.ErrRange, e, y)
		y, e = exact.Reach(api.Curve{}, v)
		wantError(t, "Reach of nothing, range first", api.ErrRange, e, y)
	}
	y, e = exact.Reach(api.Curve{Starts: []int{-7}, Slopes: []api.Rat{{Num: exact.Of(-1), Den: exact.Of(-3)}}}, rat(1, 2))
	want(t, "Reach on the last slope", []any{y, e}, []any{rat(-11, 2), api.OK})
	v, is, e := exact.Capacity(c)
	want(t, "Capacity", []any{v, is, e}, []any{rat(30, 1), true, api.OK})
	v, is, e = exact.Capacity(api.Curve{})
	want(t, "Capacity of nothing", []any{v, is, e}, []any{rat(0, 1), true, api.OK})
	v, is, e = exact.Capacity(api.Curve{Starts: []int{0, 3}, Slopes: []api.Rat{{}, rat(1, 9)}})
	want(t, "no capacity", []any{v, is, e}, []any{api.Rat{}, false, api.OK})
	v, is, e = exact.Capacity(api.Curve{Starts: []int{4}, Slopes: []api.Rat{{Num: api.Int{Neg: true}}}})
	want(t, "Capacity of 0", []any{v, is, e}, []any{rat(0, 1), true, api.OK})
}

// ramps are a curve as a sum of ramps: another way to the same function.
func ramps(c api.Curve, y *big.Rat) (value, slope, integral *big.Rat) {
	value, slope, integral = new(big.Rat), new(big.Rat), new(big.Rat)
	before := new(big.Rat)
	for i, at := range c.Starts {
		now := bigRat(c.Slopes[i])
		bend := new(big.Rat).Sub(now, before)
		before = now
		width := new(big.Rat).Sub(y, big.NewRat(int64(at), 1))
		if width.Sign() < 0 {
			continue
		}
		slope.Add(slope, bend)
		area := new(big.Rat).Mul(bend, width)
		value.Add(value, area)
		area.Mul(area, width)
		integral.Add(integral, area.Mul(area, big.NewRat(1, 2)))
	}
	return value, slope, integral
}

func randomCurve(r *rand.Rand) api.Curve {
	c, at := api.Curve{}, r.Intn(30)-60
	for range r.Intn(12) {
		at += 1 + r.Intn(9)
		c.Starts = append(c.Starts, at)
		c.Slopes = append(c.Slopes, oddRat(rat(r.Intn(9)*r.Intn(3), 1+r.Intn(6))))
	}
	return c
}

func TestCurvesAgainstRamps(t *testing.T) {
	r := rand.New(rand.NewSource(17))
	for range 3000 {
		c, d := randomCurve(r), randomCurve(r)
		y := rat(r.Intn(1000)-500, 1+r.Intn(7))
		value, slope, integral := ramps(c, bigRat(y))
		v, _ := exact.Value(c, oddRat(y))
		want(t, "Value", v, plainRat(value))
		s, _ := exact.Slope(c, oddRat(y))
		want(t, "Slope", s, plainRat(slope))
		a, _ := exact.Integral(c, oddRat(y))
		want(t, "Integral", a, plainRat(integral))
		sum, e := exact.Sum(c, d)
		w, _ := exact.Value(d, y)
		both, _ := exact.Value(sum, y)
		want(t, "Value of Sum", []any{both, e}, []any{exact.AddRat(v, w), api.OK})
		wantBends(t, sum)
		by := r.Intn(2000) - 1000
		moved, e := exact.Shift(c, by)
		there, _ := exact.Value(moved, exact.AddRat(y, rat(by, 1)))
		want(t, "Value of Shift", []any{there, e}, []any{v, api.OK})
		wantBends(t, moved)
	}
}

// wantBends demands a normalized curve.
func wantBends(t *testing.T, c api.Curve) {
	t.Helper()
	before := rat(0, 1)
	for _, s := range c.Slopes {
		want(t, "a slope", s, plainRat(bigRat(s)))
		if exact.CmpRat(s, before) == 0 {
			t.Errorf("a start without a bend: %v", c)
		}
		before = s
	}
	want(t, "the error of a curve in a result", exact.CheckCurve(c), api.OK)
}

// P1.10

func TestReachIsTheInverse(t *testing.T) {
	r := rand.New(rand.NewSource(18))
	for range 3000 {
		c, v := randomCurve(r), rat(1+r.Intn(100), 1+r.Intn(5))
		most, bounded, _ := exact.Capacity(c)
		y, e := exact.Reach(c, v)
		if bounded && exact.CmpRat(v, most) > 0 {
			wantError(t, "Reach above the capacity", api.ErrNone, e, y)
			continue
		}
		back, _ := exact.Value(c, y)
		want(t, "Value of Reach", []any{back, e}, []any{v, api.OK})
		before, _ := exact.Value(c, exact.SubRat(y, rat(1, 1000000)))
		want(t, "Reach is the least place", exact.CmpRat(before, v), -1)
	}
}

func TestDifferenceQuotients(t *testing.T) {
	r := rand.New(rand.NewSource(19))
	for range 2000 {
		c := randomCurve(r)
		x := rat(r.Intn(200)-100, 1+r.Intn(4))
		d := rat(1+r.Intn(40), 1+r.Intn(4))
		low, _ := exact.Value(c, x)
		high, _ := exact.Value(c, exact.AddRat(x, d))
		steepest := rat(0, 1)
		for _, s := range c.Slopes {
			if exact.CmpRat(s, steepest) > 0 {
				steepest = s
			}
		}
		grown := exact.SubRat(high, low)
		if exact.CmpRat(grown, rat(0, 1)) < 0 || exact.CmpRat(grown, exact.MulRat(steepest, d)) > 0 {
			t.Errorf("%v grows by %s from %s on", c, exact.FormatRat(grown), exact.FormatRat(x))
		}
	}
}
