package floating_test

import (
	"fmt"
	"math/big"
	"math/rand"
	"reflect"
	"slices"
	"testing"

	"keelblock/api"
	"keelblock/exact"
)

// num is a normalized fraction.
func num(text string) api.Rat {
	x, e := exact.ParseRat(text)
	if e != api.OK {
		panic("no number: " + text)
	}
	return x
}

func nums(texts ...string) []api.Rat {
	var out []api.Rat
	for _, s := range texts {
		out = append(out, num(s))
	}
	return out
}

func whole(n int) api.Rat { return exact.Whole(exact.Of(n)) }

// odd is the same fraction in another representation.
func odd(x api.Rat) api.Rat {
	zeros := func(a api.Int, neg bool) api.Int {
		return api.Int{Neg: neg, Limbs: append(slices.Clone(a.Limbs), 0, 0)}
	}
	x = exact.AddRat(x, api.Rat{})
	by := exact.Of(-6)
	if exact.Cmp(x.Den, exact.Of(1)) == 0 {
		return api.Rat{Num: zeros(x.Num, x.Num.Neg), Den: api.Int{Neg: true, Limbs: []uint16{0}}}
	}
	return api.Rat{Num: zeros(exact.Mul(x.Num, by), !x.Num.Neg), Den: zeros(exact.Mul(x.Den, by), true)}
}

func oddAt(a api.Attitude) api.Attitude {
	return api.Attitude{Sink: odd(a.Sink), Slope: odd(a.Slope)}
}

// oddBody is the same body with other representations of all its numbers.
func oddBody(b api.Body) api.Body {
	b.At = odd(b.At)
	b.Supports = slices.Clone(b.Supports)
	for i, s := range b.Supports {
		b.Supports[i].C = odd(s.C)
		b.Supports[i].Curve.Slopes = nil
		for _, k := range s.Curve.Slopes {
			b.Supports[i].Curve.Slopes = append(b.Supports[i].Curve.Slopes, odd(k))
		}
	}
	return b
}

func at(sink, slope string) api.Attitude {
	return api.Attitude{Sink: num(sink), Slope: num(slope)}
}

func curve(starts []int, slopes ...string) api.Curve {
	return api.Curve{Starts: starts, Slopes: nums(slopes...)}
}

// spring and pad are the supports of the chapter's examples.
func spring(x int) api.Support {
	return api.Support{X: x, C: num("0"), Curve: curve([]int{0}, "2")}
}

func pad(x int) api.Support {
	return api.Support{X: x, C: num("0"), Curve: curve([]int{0, 10}, "5", "0")}
}

func body(weight int, at string, l ...api.Support) api.Body {
	return api.Body{Weight: weight, At: num(at), Supports: l}
}

// raft has all that supports may have: steps, flat parts, fractions, an empty curve, one that is
// not normalized, and two supports at one place. It carries at most 2325 + 75/2.
func raft() []api.Support {
	return []api.Support{
		{X: 300, C: num("-5/3"), Curve: curve([]int{-20, 0, 10, 40}, "1/2", "0", "7/2", "0")},
		{X: -200, C: num("20"), Curve: curve([]int{0, 50}, "30", "0")},
		{X: 0, C: num("0"), Curve: api.Curve{}},
		{X: 900, C: num("1/2"), Curve: curve([]int{-30, -10, 0, 35}, "0", "9", "9", "0")},
		{X: 300, C: num("0"), Curve: curve([]int{5, 25}, "10", "0")},
	}
}

// tug is a ship of three strips, with steps and items.
func tug() api.Ship {
	return api.Ship{
		Name: "Tug-2", Length: 20001,
		Stations: []api.Station{
			{X: -500, Width: 1001, Levels: []int{100, 1000, 2500}, Halves: []int{1000, 1500}},
			{X: 501, Width: 1001, Levels: []int{0, 700, 900, 3000}, Halves: []int{2000, 0, 2300}},
			{X: 12000, Width: 8000, Levels: []int{50, 3100}, Halves: []int{2500}},
		},
		Light: api.Load{Name: "Light", Mass: 30000, X: 9000, Z: 1700, Free: 7},
		Items: []api.Load{
			{Name: "Oil", Mass: 1500, X: -500, Z: 300, Free: 11},
			{Name: "Crane", Mass: 2001, X: 14000, Z: -20},
			{Name: "Mark", Mass: 0, X: 20001, Z: 5000},
		},
	}
}

// want compares results; a nil slice and an empty one print the same.
func want(t *testing.T, what string, got, wanted any) {
	t.Helper()
	if fmt.Sprintf("%T %v", got, got) != fmt.Sprintf("%T %v", wanted, wanted) {
		t.Errorf("%s: %v, want %v", what, got, wanted)
	}
}

// wantError demands an error, beside which all other results are zero values.
func wantError(t *testing.T, what string, wanted, got api.Errno, results ...any) {
	t.Helper()
	if got != wanted {
		t.Errorf("%s: error %d, want %d", what, got, wanted)
	}
	for _, x := range results {
		want(t, what+": a result beside an error", x, reflect.Zero(reflect.TypeOf(x)).Interface())
	}
}

// spans are the parts of the memory of all slices in a value, spare room included.
func spans(v reflect.Value) [][2]uintptr {
	var out [][2]uintptr
	switch v.Kind() {
	case reflect.Slice, reflect.Array:
		if v.Kind() == reflect.Slice && v.Cap() > 0 {
			out = append(out, [2]uintptr{v.Pointer(), v.Pointer() + uintptr(v.Cap())*v.Type().Elem().Size()})
		}
		for i := range v.Len() {
			out = append(out, spans(v.Index(i))...)
		}
	case reflect.Struct:
		for i := range v.NumField() {
			out = append(out, spans(v.Field(i))...)
		}
	}
	return out
}

// wantOwn calls f with the arguments and demands that they stay as they are, and that the results
// share memory neither with them nor with each other.
func wantOwn(t *testing.T, what string, f any, args ...any) {
	t.Helper()
	var in []reflect.Value
	var given, results [][2]uintptr
	for _, a := range args {
		in = append(in, reflect.ValueOf(a))
		given = append(given, spans(reflect.ValueOf(a))...)
	}
	before := fmt.Sprintf("%#v", args)
	for _, x := range reflect.ValueOf(f).Call(in) {
		results = append(results, spans(x)...)
	}
	if fmt.Sprintf("%#v", args) != before {
		t.Errorf("%s writes into its arguments", what)
	}
	for i, a := range results {
		meets := func(b [2]uintptr) bool { return a[0] < b[1] && b[0] < a[1] }
		if slices.ContainsFunc(given, meets) {
			t.Errorf("%s: a result shares memory with an argument", what)
		}
		if slices.ContainsFunc(results[:i], meets) {
			t.Errorf("%s: two results share memory", what)
		}
	}
}

// bigOf reads a fraction for a second opinion by math/big.
func bigOf(x api.Rat) *big.Rat {
	b, ok := new(big.Rat).SetString(exact.FormatRat(x))
	if !ok {
		panic("no number")
	}
	return b
}

func bigs(l []api.Rat) []*big.Rat {
	var out []*big.Rat
	for _, x := range l {
		out = append(out, bigOf(x))
	}
	return out
}

// ofBig is the normalized fraction.
func ofBig(b *big.Rat) api.Rat { return num(b.RatString()) }

func ofBigs(l []*big.Rat) []api.Rat {
	var out []api.Rat
	for _, x := range l {
		out = append(out, ofBig(x))
	}
	return out
}

func bigInt(n int) *big.Rat { return new(big.Rat).SetInt64(int64(n)) }

func plus(x, y *big.Rat) *big.Rat { return new(big.Rat).Add(x, y) }

func minus(x, y *big.Rat) *big.Rat { return new(big.Rat).Sub(x, y) }

func mul(x, y *big.Rat) *big.Rat { return new(big.Rat).Mul(x, y) }

func quo(x, y *big.Rat) *big.Rat { return new(big.Rat).Quo(x, y) }

// A reply is the second opinion about a support at an attitude.
type reply struct {
	y, force, slope, below, integral *big.Rat // below is the slope on the left side
}

func secondReply(s api.Support, a api.Attitude) reply {
	r := reply{y: plus(bigOf(s.C), plus(bigOf(a.Sink), mul(bigOf(a.Slope), bigInt(s.X))))}
	r.force, r.slope, r.below, r.integral = new(big.Rat), new(big.Rat), new(big.Rat), new(big.Rat)
	before := new(big.Rat)
	for i, start := range s.Curve.Starts {
		over := minus(r.y, bigInt(start))
		// each bend adds its change of slope to all that lies above it
		steeper := minus(bigOf(s.Curve.Slopes[i]), before)
		before = bigOf(s.Curve.Slopes[i])
		if over.Sign() < 0 {
			continue
		}
		r.slope = plus(r.slope, steeper)
		if over.Sign() > 0 {
			r.below = plus(r.below, steeper)
		}
		r.force = plus(r.force, mul(steeper, over))
		r.integral = plus(r.integral, mul(steeper, mul(mul(over, over), big.NewRat(1, 2))))
	}
	return r
}

// secondTotal is the sum of the forces and that of their moments.
func secondTotal(l []api.Support, a api.Attitude) (force, moment *big.Rat) {
	force, moment = new(big.Rat), new(big.Rat)
	for _, s := range l {
		f := secondReply(s, a).force
		force, moment = plus(force, f), plus(moment, mul(f, bigInt(s.X)))
	}
	return force, moment
}

// secondCapacity is nil if there is none.
func secondCapacity(c api.Curve) *big.Rat {
	n := len(c.Starts)
	if n == 0 {
		return new(big.Rat)
	}
	if bigOf(c.Slopes[n-1]).Sign() > 0 {
		return nil
	}
	return secondReply(api.Support{Curve: c}, api.Attitude{Sink: whole(c.Starts[n-1])}).force
}

// randomBody has few supports with small numbers, so that places, bends and weights often
// coincide, and often carries what its supports just carry.
func randomBody(r *rand.Rand) api.Body {
	b := api.Body{Weight: 1 + r.Intn(60), At: ratio(r.Intn(41)-20, 1+r.Intn(3))}
	for range r.Intn(5) {
		s := api.Support{X: r.Intn(21) - 10, C: ratio(r.Intn(9)-4, 1+r.Intn(2))}
		start := r.Intn(9) - 4
		for range r.Intn(5) {
			s.Curve.Starts = append(s.Curve.Starts, start)
			s.Curve.Slopes = append(s.Curve.Slopes, ratio(r.Intn(3)*r.Intn(3), 1+r.Intn(2)))
			start += 1 + r.Intn(6)
		}
		if n := len(s.Curve.Slopes); n > 0 && r.Intn(2) == 0 {
			s.Curve.Slopes[n-1] = num("0")
		}
		b.Supports = append(b.Supports, s)
	}
	return b
}

// restingBody has an equilibrium, at which its supports often begin or end to yield.
func restingBody(r *rand.Rand) api.Body {
	for {
		b := randomBody(r)
		a := api.Attitude{Sink: ratio(r.Intn(13)-6, 1), Slope: ratio(r.Intn(5)-2, 2)}
		if f, m := secondTotal(b.Supports, a); f.IsInt() && f.Sign() > 0 {
			b.Weight, b.At = int(f.Num().Int64()), ofBig(quo(m, f))
			return b
		}
	}
}

func randomAttitude(r *rand.Rand) api.Attitude {
	return api.Attitude{Sink: ratio(r.Intn(41)-20, 1+r.Intn(3)), Slope: ratio(r.Intn(9)-4, 1+r.Intn(5))}
}

func ratio(a, b int) api.Rat {
	x, _ := exact.Ratio(a, b)
	return x
}
