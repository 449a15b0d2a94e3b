package hull_test

import (
	"fmt"
	"math/big"
	"math/rand"
	"reflect"
	"slices"
	"testing"

	"keelblock/api"
	"keelblock/exact"
)

// num is a normalized fraction.
func num(text string) api.Rat {
	x, e := exact.ParseRat(text)
	if e != api.OK {
		panic("no number: " + text)
	}
	return x
}

func nums(texts ...string) []api.Rat {
	var out []api.Rat
	for _, s := range texts {
		out = append(out, num(s))
	}
	return out
}

// odd is the same fraction in another representation.
func odd(x api.Rat) api.Rat {
	zeros := func(a api.Int, neg bool) api.Int {
		return api.Int{Neg: neg, Limbs: append(slices.Clone(a.Limbs), 0, 0)}
	}
	by := exact.Of(-6)
	if exact.Cmp(x.Den, exact.Of(1)) == 0 {
		return api.Rat{Num: zeros(x.Num, x.Num.Neg), Den: api.Int{Neg: true, Limbs: []uint16{0}}}
	}
	return api.Rat{Num: zeros(exact.Mul(x.Num, by), !x.Num.Neg), Den: zeros(exact.Mul(x.Den, by), true)}
}

func at(sink, slope string) api.Attitude {
	return api.Attitude{Sink: num(sink), Slope: num(slope)}
}

func oddAt(a api.Attitude) api.Attitude {
	return api.Attitude{Sink: odd(a.Sink), Slope: odd(a.Slope)}
}

// bigOf reads a normalized fraction for a second opinion by math/big.
func bigOf(t *testing.T, x api.Rat) *big.Rat {
	t.Helper()
	b, ok := new(big.Rat).SetString(exact.FormatRat(x))
	if !ok || !reflect.DeepEqual(num(b.RatString()), x) {
		t.Errorf("%v is not normalized", x)
	}
	return b
}

// ofBig is the normalized fraction.
func ofBig(b *big.Rat) api.Rat { return num(b.RatString()) }

// barge is the ship of the chapter's examples.
func barge() api.Ship {
	return api.Ship{
		Name: "Barge", Length: 20000,
		Stations: []api.Station{{X: 10000, Width: 20000, Levels: []int{0, 3000}, Halves: []int{4000}}},
		Light:    api.Load{Name: "Light", Mass: 320000, X: 10000, Z: 2000},
	}
}

// tug has all that a ship may have: steps, a strip without breadth, gaps and touching strips,
// items with free surfaces, items without mass, and two loads at a place.
func tug() api.Ship {
	return api.Ship{
		Name: "Tug-2", Length: 20001,
		Stations: []api.Station{
			{X: -500, Width: 1001, Levels: []int{100, 1000, 2500}, Halves: []int{1000, 1500}},
			{X: 501, Width: 1001, Levels: []int{0, 700, 900, 3000}, Halves: []int{2000, 0, 2300}},
			{X: 12000, Width: 8000, Levels: []int{50, 3100}, Halves: []int{2500}},
		},
		Light: api.Load{Name: "Light", Mass: 90000, X: 9000, Z: 1700, Free: 7},
		Items: []api.Load{
			{Name: "Oil", Mass: 1500, X: -500, Z: 300, Free: 11},
			{Name: "Crane", Mass: 2001, X: 14000, Z: -20},
			{Name: "Mark", Mass: 0, X: 20001, Z: 5000},
			{Name: "Fuel", Mass: 3000, X: 14000, Z: 900, Free: 5},
		},
	}
}

// want compares results; a nil slice and an empty one print the same.
func want(t *testing.T, what string, got, wanted any) {
	t.Helper()
	if fmt.Sprintf("%T %v", got, got) != fmt.Sprintf("%T %v", wanted, wanted) {
		t.Errorf("%s: %v, want %v", what, got, wanted)
	}
}

// wantError demands an error, beside which all other results are zero values.
func wantError(t *testing.T, what string, wanted, got api.Errno, results ...any) {
	t.Helper()
	if got != wanted {
		t.Errorf("%s: error %d, want %d", what, got, wanted)
	}
	for _, x := range results {
		want(t, what+": a result beside an error", x, reflect.Zero(reflect.TypeOf(x)).Interface())
	}
}

// spans are the parts of the memory of all slices in a value, spare room included.
func spans(v reflect.Value) [][2]uintptr {
	var out [][2]uintptr
	switch v.Kind() {
	case reflect.Slice, reflect.Array:
		if v.Kind() == reflect.Slice && v.Cap() > 0 {
			out = append(out, [2]uintptr{v.Pointer(), v.Pointer() + uintptr(v.Cap())*v.Type().Elem().Size()})
		}
		for i := range v.Len() {
			out = append(out, spans(v.Index(i))...)
		}
	case reflect.Struct:
		for i := range v.NumField() {
			out = append(out, spans(v.Field(i))...)
		}
	}
	return out
}

// wantOwn calls f with the arguments and demands that they stay as they are, and that the results
// share memory neither with them nor with each other.
func wantOwn(t *testing.T, what string, f any, args ...any) {
	t.Helper()
	var in []reflect.Value
	var given, results [][2]uintptr
	for _, a := range args {
		in = append(in, reflect.ValueOf(a))
		given = append(given, spans(reflect.ValueOf(a))...)
	}
	before := fmt.Sprintf("%#v", args)
	for _, x := range reflect.ValueOf(f).Call(in) {
		results = append(results, spans(x)...)
	}
	if fmt.Sprintf("%#v", args) != before {
		t.Errorf("%s writes into its arguments", what)
	}
	for i, a := range results {
		meets := func(b [2]uintptr) bool { return a[0] < b[1] && b[0] < a[1] }
		if slices.ContainsFunc(given, meets) {
			t.Errorf("%s: a result shares memory with an argument", what)
		}
		if slices.ContainsFunc(results[:i], meets) {
			t.Errorf("%s: two results share memory", what)
		}
	}
}

// randomShip is valid, and often has steps at the same levels.
func randomShip(r *rand.Rand) api.Ship {
	s := api.Ship{Name: "R", Length: 1 + r.Intn(30000)}
	x := r.Intn(4000) - 3000
	for range 1 + r.Intn(6) {
		t := api.Station{X: x, Width: 1 + r.Intn(2000)}
		z := 10 * r.Intn(30)
		t.Levels = append(t.Levels, z)
		for range 1 + r.Intn(5) {
			z += 10 * (1 + r.Intn(60))
			t.Levels = append(t.Levels, z)
			t.Halves = append(t.Halves, r.Intn(4)*r.Intn(900))
		}
		s.Stations = append(s.Stations, t)
		x += 2000 + r.Intn(3000)
	}
	for i := range r.Intn(6) {
		l := api.Load{Name: fmt.Sprint("L", i), Mass: r.Intn(9000), X: r.Intn(20000) - 4000, Z: r.Intn(5000) - 1000, Free: r.Intn(3) * r.Intn(500)}
		if r.Intn(3) == 0 {
			l.X = s.Stations[0].X
		}
		s.Items = append(s.Items, l)
	}
	s.Light = api.Load{Name: "Light", Mass: 1 + r.Intn(100000), X: r.Intn(20000), Z: r.Intn(4000)}
	return s
}

// randomAttitude often has the water at a level, and sometimes below or above all of them.
func randomAttitude(r *rand.Rand) api.Attitude {
	q := func(a, b int) api.Rat {
		x, _ := exact.Ratio(a, b)
		return x
	}
	switch r.Intn(4) {
	case 0:
		return api.Attitude{Sink: q(10*r.Intn(200), 1)}
	case 1:
		return api.Attitude{Sink: q(r.Intn(9000)-4000, 1+r.Intn(5)), Slope: q(r.Intn(200)-100, 1+r.Intn(300))}
	}
	return api.Attitude{Sink: q(r.Intn(3000), 1+r.Intn(3)), Slope: q(r.Intn(200)-100, 1000+r.Intn(3000))}
}
