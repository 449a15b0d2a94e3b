package exact_test

import (
	"math"
	"math/big"
	"math/rand"
	"strings"
	"testing"

	"keelblock/api"
	"keelblock/exact"
)

// P1.1

func TestOfAndSmall(t *testing.T) {
	want(t, "Of(-65537)", exact.Of(-65537), api.Int{Neg: true, Limbs: []uint16{1, 1}})
	for _, n := range []int{0, 1, -1, 65535, 65536, -65536, 1 << 32, math.MaxInt, math.MinInt, math.MinInt + 1} {
		a := exact.Of(n)
		want(t, "Of", a, plainInt(big.NewInt(int64(n))))
		for _, x := range []api.Int{a, oddInt(a)} {
			back, ok := exact.Small(x)
			if back != n || !ok {
				t.Errorf("Small(Of(%d)) is %d, %v", n, back, ok)
			}
		}
	}
	for _, x := range []api.Int{
		{Limbs: []uint16{0, 0, 0, 32768}},
		{Neg: true, Limbs: []uint16{1, 0, 0, 32768}},
		{Limbs: []uint16{65535, 65535, 65535, 65535}},
		{Limbs: []uint16{1, 0, 0, 0, 1}},
		{Neg: true, Limbs: []uint16{0, 0, 0, 0, 1, 0}},
	} {
		if n, ok := exact.Small(x); n != 0 || ok {
			t.Errorf("Small(%v) is %d, %v", x, n, ok)
		}
	}
}

func TestDivModOfExamples(t *testing.T) {
	for _, x := range [][4]int{
		{7, 2, 3, 1}, {-7, 2, -4, 1}, {7, -2, -3, 1}, {-7, -2, 4, 1},
		{6, 3, 2, 0}, {-6, 3, -2, 0}, {6, -3, -2, 0}, {-6, -3, 2, 0},
		{0, -5, 0, 0}, {3, 5, 0, 3}, {-3, 5, -1, 2}, {-3, -5, 1, 2},
		{math.MinInt, -1, math.MinInt, 0}, {math.MinInt, 1, math.MinInt, 0},
	} {
		q, r, e := exact.DivMod(exact.Of(x[0]), exact.Of(x[1]))
		wanted := exact.Of(x[2])
		if x[0] == math.MinInt && x[1] == -1 {
			wanted = api.Int{Limbs: []uint16{0, 0, 0, 32768}}
		}
		want(t, "DivMod", []any{q, r, e}, []any{wanted, exact.Of(x[3]), api.OK})
	}
	for _, zero := range []api.Int{{}, {Neg: true}, {Limbs: []uint16{0, 0}}, {Neg: true, Limbs: []uint16{0}}} {
		q, r, e := exact.DivMod(exact.Of(5), zero)
		wantError(t, "DivMod by 0", api.ErrZero, e, q, r)
	}
}

func TestIntegersAgainstBig(t *testing.T) {
	r := rand.New(rand.NewSource(11))
	for range 20000 {
		a, b := randomInt(r, 12), randomInt(r, 8)
		x, y := bigInt(a), bigInt(b)
		want(t, "Add", exact.Add(a, b), plainInt(new(big.Int).Add(x, y)))
		want(t, "Sub", exact.Sub(a, b), plainInt(new(big.Int).Sub(x, y)))
		want(t, "Mul", exact.Mul(a, b), plainInt(new(big.Int).Mul(x, y)))
		want(t, "Cmp", exact.Cmp(a, b), x.Cmp(y))
		want(t, "Cmp with itself", exact.Cmp(oddInt(a), a), 0)
		q, m, e := exact.DivMod(a, b)
		if y.Sign() == 0 {
			wantError(t, "DivMod by 0", api.ErrZero, e, q, m)
			continue
		}
		p, n := new(big.Int).DivMod(x, y, new(big.Int))
		want(t, "DivMod", []any{q, m, e}, []any{plainInt(p), plainInt(n), api.OK})
	}
}

func TestLongIntegers(t *testing.T) {
	r := rand.New(rand.NewSource(12))
	a, b := randomInt(r, 0), randomInt(r, 0)
	for range 1500 {
		a.Limbs = append(a.Limbs, uint16(r.Intn(65536)))
	}
	for range 700 {
		b.Limbs = append(b.Limbs, uint16(r.Intn(65536)))
	}
	q, m, _ := exact.DivMod(a, b)
	want(t, "q b + r", exact.Add(exact.Mul(q, b), m), plainInt(bigInt(a)))
	want(t, "Format", exact.Format(a), bigInt(a).String())
	want(t, "a fraction", exact.MulRat(api.Rat{Num: a, Den: b}, api.Rat{Num: b, Den: a}), rat(1, 1))
}

func TestCmpOfZeros(t *testing.T) {
	for _, a := range []api.Int{{}, {Neg: true}, {Neg: true, Limbs: []uint16{0, 0}}} {
		for _, b := range []api.Int{{}, {Neg: true, Limbs: []uint16{0}}} {
			want(t, "Cmp of zeros", exact.Cmp(a, b), 0)
		}
		want(t, "Cmp(0, 1)", exact.Cmp(a, exact.Of(1)), -1)
		want(t, "Cmp(0, -1)", exact.Cmp(a, exact.Of(-1)), 1)
		want(t, "0 + 0", exact.Add(a, a), api.Int{})
		want(t, "0 * -7", exact.Mul(a, exact.Of(-7)), api.Int{})
		want(t, "5 - 0", exact.Sub(exact.Of(5), a), exact.Of(5))
	}
}

// P1.2

func TestTextsOfIntegers(t *testing.T) {
	r := rand.New(rand.NewSource(13))
	for range 3000 {
		a := randomInt(r, 20)
		s := exact.Format(a)
		want(t, "Format", s, bigInt(a).String())
		back, e := exact.Parse(s)
		want(t, "Parse", []any{back, e}, []any{plainInt(bigInt(a)), api.OK})
	}
	want(t, "Format of a negative 0", exact.Format(api.Int{Neg: true, Limbs: []uint16{0}}), "0")
	want(t, "Format of 10^4", exact.Format(exact.Of(-10000)), "-10000")
	for _, s := range []string{"", "-", "-0", "00", "01", "-01", "+1", " 1", "1 ", "1.5", "--1", "1-", "1e3", "a", "0x1", "１", "1\n", "/", ":", "1/1"} {
		a, e := exact.Parse(s)
		wantError(t, "Parse of "+s, api.ErrSyntax, e, a)
	}
}

func TestLongTexts(t *testing.T) {
	long := strings.Repeat("9", 400)
	a, e := exact.Parse(long)
	want(t, "400 bytes", []any{exact.Format(a), e}, []any{long, api.OK})
	a, e = exact.Parse("-" + long)
	wantError(t, "401 bytes", api.ErrLarge, e, a)
	a, e = exact.Parse(strings.Repeat("x", 401))
	wantError(t, "401 bytes that are no number", api.ErrLarge, e, a)
	a, e = exact.Parse(strings.Repeat("x", 400))
	wantError(t, "400 bytes that are no number", api.ErrSyntax, e, a)
	for _, s := range []string{long + long, "-" + long + long[:399], long + "0/" + strings.Repeat("7", 397), "1/" + long + long[:398]} {
		x, e := exact.ParseRat(s)
		want(t, "ParseRat of many bytes", []any{exact.FormatRat(x), e}, []any{s, api.OK})
	}
	x, e := exact.ParseRat(long + long + "9")
	wantError(t, "801 bytes", api.ErrLarge, e, x)
	x, e = exact.ParseRat(strings.Repeat("/", 801))
	wantError(t, "801 bytes that are no fraction", api.ErrLarge, e, x)
	x, e = exact.ParseRat(strings.Repeat("/", 800))
	wantError(t, "800 bytes that are no fraction", api.ErrSyntax, e, x)
}

func TestTextsOfFractions(t *testing.T) {
	r := rand.New(rand.NewSource(14))
	for range 3000 {
		x := randomRat(r, 6)
		s := exact.FormatRat(x)
		want(t, "FormatRat", s, bigRat(x).RatString())
		back, e := exact.ParseRat(s)
		want(t, "ParseRat", []any{back, e}, []any{plainRat(bigRat(x)), api.OK})
	}
	want(t, "FormatRat of 6/-4", exact.FormatRat(api.Rat{Num: exact.Of(6), Den: exact.Of(-4)}), "-3/2")
	want(t, "FormatRat of -6/-4", exact.FormatRat(api.Rat{Num: exact.Of(-6), Den: exact.Of(-4)}), "3/2")
	want(t, "FormatRat of 4/-2", exact.FormatRat(api.Rat{Num: exact.Of(4), Den: exact.Of(-2)}), "-2")
	want(t, "FormatRat of Rat{}", exact.FormatRat(api.Rat{}), "0")
	for _, s := range []string{"", "/", "1/", "/2", "3/1", "6/4", "1/-2", "-1/-2", "1/0", "0/1", "0/2", "-0", "-0/2", "1/2/3", "01/2", "1/02", "1 /2", "1/ 2", "+1/2", "0.5"} {
		x, e := exact.ParseRat(s)
		wantError(t, "ParseRat of "+s, api.ErrSyntax, e, x)
	}
}

// P1.3

func TestRatio(t *testing.T) {
	x, e := exact.Ratio(6, -4)
	want(t, "6/-4", []any{x, e}, []any{api.Rat{Num: api.Int{Neg: true, Limbs: []uint16{3}}, Den: api.Int{Limbs: []uint16{2}}}, api.OK})
	x, e = exact.Ratio(0, -4)
	want(t, "0/-4", []any{x, e}, []any{api.Rat{Den: api.Int{Limbs: []uint16{1}}}, api.OK})
	x, e = exact.Ratio(math.MinInt, math.MinInt)
	want(t, "the least int by itself", []any{x, e}, []any{rat(1, 1), api.OK})
	x, e = exact.Ratio(1, math.MinInt)
	want(t, "1 by the least int", []any{exact.FormatRat(x), e}, []any{"-1/9223372036854775808", api.OK})
	for _, n := range []int{0, 1, -7} {
		x, e = exact.Ratio(n, 0)
		wantError(t, "a ratio by 0", api.ErrZero, e, x)
	}
	want(t, "Whole", exact.Whole(api.Int{Neg: true, Limbs: []uint16{7, 0}}), rat(-7, 1))
	want(t, "Whole of 0", exact.Whole(api.Int{Neg: true, Limbs: []uint16{0}}), rat(0, 1))
}

func TestFractionsAgainstBig(t *testing.T) {
	r := rand.New(rand.NewSource(15))
	for i := range 20000 {
		x, y := randomRat(r, 1+i%7), randomRat(r, 1+i%5)
		if i%3 == 0 {
			y.Den = x.Den
		}
		a, b := bigRat(x), bigRat(y)
		want(t, "AddRat", exact.AddRat(x, y), plainRat(new(big.Rat).Add(a, b)))
		want(t, "SubRat", exact.SubRat(x, y), plainRat(new(big.Rat).Sub(a, b)))
		want(t, "MulRat", exact.MulRat(x, y), plainRat(new(big.Rat).Mul(a, b)))
		want(t, "CmpRat", exact.CmpRat(x, y), a.Cmp(b))
		want(t, "CmpRat with itself", exact.CmpRat(x, oddRat(plainRat(a))), 0)
		q, e := exact.QuoRat(x, y)
		if b.Sign() == 0 {
			wantError(t, "QuoRat by 0", api.ErrZero, e, q)
		} else {
			want(t, "QuoRat", []any{q, e}, []any{plainRat(new(big.Rat).Quo(a, b)), api.OK})
		}
		want(t, "Floor", exact.Floor(x), plainInt(floor(a)))
		want(t, "Nearest", exact.Nearest(x), plainInt(floor(new(big.Rat).Add(a, big.NewRat(1, 2)))))
	}
}

func floor(x *big.Rat) *big.Int { return new(big.Int).Div(x.Num(), x.Denom()) }

func TestFloorAndNearest(t *testing.T) {
	for _, x := range [][4]int{
		{-3, 2, -2, -1}, {3, 2, 1, 2}, {1, 2, 0, 1}, {-1, 2, -1, 0}, {5, -2, -3, -2},
		{4, 1, 4, 4}, {-4, 1, -4, -4}, {0, 1, 0, 0}, {7, 3, 2, 2}, {8, 3, 2, 3}, {-7, 3, -3, -2}, {-8, 3, -3, -3},
	} {
		y := api.Rat{Num: exact.Of(x[0]), Den: exact.Of(x[1])}
		want(t, "Floor of "+exact.FormatRat(y), exact.Floor(y), exact.Of(x[2]))
		want(t, "Nearest of "+exact.FormatRat(y), exact.Nearest(y), exact.Of(x[3]))
	}
	want(t, "Floor of a fraction by 0", exact.Floor(api.Rat{Num: exact.Of(-7), Den: api.Int{Neg: true}}), exact.Of(-7))
	want(t, "Nearest of Rat{}", exact.Nearest(api.Rat{}), api.Int{})
}

// P1.10

func TestRingAndField(t *testing.T) {
	r := rand.New(rand.NewSource(16))
	for range 3000 {
		a, b, c := randomInt(r, 6), randomInt(r, 6), randomInt(r, 6)
		want(t, "a (b + c)", exact.Mul(a, exact.Add(b, c)), exact.Add(exact.Mul(a, b), exact.Mul(a, c)))
		want(t, "(a + b) + c", exact.Add(exact.Add(a, b), c), exact.Add(a, exact.Add(b, c)))
		want(t, "(a b) c", exact.Mul(exact.Mul(a, b), c), exact.Mul(a, exact.Mul(b, c)))
		want(t, "a - b + b", exact.Add(exact.Sub(a, b), b), exact.Add(a, api.Int{}))
		x, y, z := randomRat(r, 4), randomRat(r, 4), randomRat(r, 4)
		want(t, "x (y + z)", exact.MulRat(x, exact.AddRat(y, z)), exact.AddRat(exact.MulRat(x, y), exact.MulRat(x, z)))
		want(t, "x - y + y", exact.AddRat(exact.SubRat(x, y), y), exact.AddRat(x, api.Rat{}))
		if q, e := exact.QuoRat(x, y); e == api.OK {
			want(t, "x / y * y", exact.MulRat(q, y), exact.AddRat(x, api.Rat{}))
		}
	}
}
