package docking_test

import (
	"fmt"
	"math/big"
	"math/rand"
	"reflect"
	"slices"
	"testing"

	"keelblock/api"
	"keelblock/docking"
	"keelblock/exact"
)

// num is a normalized fraction.
func num(text string) api.Rat {
	x, e := exact.ParseRat(text)
	if e != api.OK {
		panic("no number: " + text)
	}
	return x
}

func nums(texts ...string) []api.Rat {
	var out []api.Rat
	for _, s := range texts {
		out = append(out, num(s))
	}
	return out
}

func whole(n int) api.Rat { return exact.Whole(exact.Of(n)) }

func ratio(a, b int) api.Rat {
	x, _ := exact.Ratio(a, b)
	return x
}

// odd is the same fraction in another representation.
func odd(x api.Rat) api.Rat {
	zeros := func(a api.Int, neg bool) api.Int {
		return api.Int{Neg: neg, Limbs: append(slices.Clone(a.Limbs), 0, 0)}
	}
	x = exact.AddRat(x, api.Rat{})
	by := exact.Of(-6)
	if exact.Cmp(x.Den, exact.Of(1)) == 0 {
		return api.Rat{Num: zeros(x.Num, x.Num.Neg), Den: api.Int{Neg: true, Limbs: []uint16{0}}}
	}
	return api.Rat{Num: zeros(exact.Mul(x.Num, by), !x.Num.Neg), Den: zeros(exact.Mul(x.Den, by), true)}
}

// oddDocking is the same docking with other representations of all its numbers.
func oddDocking(d api.Docking) api.Docking {
	d.Blocks = slices.Clone(d.Blocks)
	for i, b := range d.Blocks {
		d.Blocks[i].Stiff = odd(b.Stiff)
	}
	return d
}

func at(sink, slope string) api.Attitude {
	return api.Attitude{Sink: num(sink), Slope: num(slope)}
}

// ship is the ship Raft of the chapter's examples.
func ship() api.Ship {
	s := api.Ship{Name: "Raft", Length: 20000, Light: api.Load{Name: "Light", Mass: 320000, X: 10000, Z: 2000}}
	for _, x := range []int{5000, 15000} {
		s.Stations = append(s.Stations, api.Station{X: x, Width: 10000, Levels: []int{0, 3000}, Halves: []int{4000}})
	}
	return s
}

func keel(x int) api.Block {
	return api.Block{X: x, Half: 500, Height: 1500, Width: 1000, Stiff: num("1000"), Limit: 200000}
}

func side(x, z int) api.Block {
	b := keel(x)
	b.Z, b.Side = z, true
	return b
}

// raft is the docking of the chapter's examples.
func raft() api.Docking { return over(keel(5000), keel(15000)) }

func over(l ...api.Block) api.Docking {
	return api.Docking{Ship: ship(), Density: 1000, Blocks: l, GM: 150, Overhang: 5000}
}

// tug has what a docking may have: odd widths, a gap between strips, steps, a strip without
// breadth below, items, side blocks, zones, and fractions.
func tug() api.Docking {
	return api.Docking{
		Ship: api.Ship{
			Name: "Tug-2", Length: 12000,
			Stations: []api.Station{
				{X: 1000, Width: 2001, Levels: []int{300, 900, 3000}, Halves: []int{1000, 1500}},
				{X: 3101, Width: 2201, Levels: []int{0, 200, 800, 3100}, Halves: []int{0, 700, 2300}},
				{X: 8000, Width: 5000, Levels: []int{50, 3200}, Halves: []int{2500}},
			},
			Light: api.Load{Name: "Light", Mass: 40000, X: 6000, Z: 1700, Free: 7},
			Items: []api.Load{
				{Name: "Oil", Mass: 1500, X: 500, Z: 300, Free: 11},
				{Name: "Crane", Mass: 2001, X: 8000, Z: 3900},
				{Name: "Mark", Mass: 0, X: 11000, Z: 5000},
			},
		},
		Density: 1025,
		Zones:   []api.Zone{{Name: "Log", From: 5000, To: 5400, Half: 100}, {Name: "Drain", From: 7000, To: 7400, Half: 900}},
		Blocks: []api.Block{
			{X: 600, Half: 301, Height: 1600, Width: 801, Stiff: num("2000/3"), Limit: 30000},
			{X: 3000, Half: 250, Height: 1500, Width: 600, Stiff: num("900"), Limit: 25000},
			{X: 9000, Half: 400, Height: 1303, Width: 700, Stiff: num("1700/7"), Limit: 40000},
			{X: 9000, Z: 1500, Half: 200, Height: 1290, Width: 501, Stiff: num("400"), Limit: 9000, Side: true},
		},
		GM: 200, Overhang: 2000,
	}
}

func course(levels ...int) []int { return levels }

// want compares results; a nil slice and an empty one print the same.
func want(t *testing.T, what string, got, wanted any) {
	t.Helper()
	if fmt.Sprintf("%T %v", got, got) != fmt.Sprintf("%T %v", wanted, wanted) {
		t.Errorf("%s: %v, want %v", what, got, wanted)
	}
}

// wantError demands an error, beside which all other results are zero values.
func wantError(t *testing.T, what string, wanted, got api.Errno, results ...any) {
	t.Helper()
	if got != wanted {
		t.Errorf("%s: error %d, want %d", what, got, wanted)
	}
	for _, x := range results {
		want(t, what+": a result beside an error", x, reflect.Zero(reflect.TypeOf(x)).Interface())
	}
}

// spans are the parts of the memory of all slices in a value, spare room included.
func spans(v reflect.Value) [][2]uintptr {
	var out [][2]uintptr
	switch v.Kind() {
	case reflect.Slice, reflect.Array:
		if v.Kind() == reflect.Slice && v.Cap() > 0 {
			out = append(out, [2]uintptr{v.Pointer(), v.Pointer() + uintptr(v.Cap())*v.Type().Elem().Size()})
		}
		for i := range v.Len() {
			out = append(out, spans(v.Index(i))...)
		}
	case reflect.Struct:
		for i := range v.NumField() {
			out = append(out, spans(v.Field(i))...)
		}
	}
	return out
}

// everything is a value as text, with what lies in the spare room of its lists.
func everything(v reflect.Value) string {
	text := ""
	switch v.Kind() {
	case reflect.Slice:
		v = v.Slice(0, v.Cap())
		fallthrough
	case reflect.Array:
		for i := range v.Len() {
			text += everything(v.Index(i)) + ","
		}
		return "[" + text + "]"
	case reflect.Struct:
		for i := range v.NumField() {
			text += everything(v.Field(i)) + ";"
		}
		return "{" + text + "}"
	}
	return fmt.Sprint(v)
}

// wantOwn calls f with the arguments and demands that they stay as they are, and that the results
// share memory neither with them nor with each other.
func wantOwn(t *testing.T, what string, f any, args ...any) {
	t.Helper()
	var in []reflect.Value
	var given, results [][2]uintptr
	for _, a := range args {
		in = append(in, reflect.ValueOf(a))
		given = append(given, spans(reflect.ValueOf(a))...)
	}
	texts := func() string {
		text := ""
		for _, v := range in {
			text += everything(v) + "\n"
		}
		return text
	}
	before := texts()
	for _, x := range reflect.ValueOf(f).Call(in) {
		results = append(results, spans(x)...)
	}
	if texts() != before {
		t.Errorf("%s writes into its arguments", what)
	}
	for i, a := range results {
		meets := func(b [2]uintptr) bool { return a[0] < b[1] && b[0] < a[1] }
		if slices.ContainsFunc(given, meets) {
			t.Errorf("%s: a result shares memory with an argument", what)
		}
		if slices.ContainsFunc(results[:i], meets) {
			t.Errorf("%s: two results share memory", what)
		}
	}
}

// bigOf reads a fraction for a second opinion by math/big.
func bigOf(x api.Rat) *big.Rat {
	b, ok := new(big.Rat).SetString(exact.FormatRat(x))
	if !ok {
		panic("no number")
	}
	return b
}

// ofBig is the normalized fraction.
func ofBig(b *big.Rat) api.Rat { return num(b.RatString()) }

func bigInt(n int) *big.Rat { return new(big.Rat).SetInt64(int64(n)) }

func plus(l ...*big.Rat) *big.Rat {
	sum := new(big.Rat)
	for _, x := range l {
		sum.Add(sum, x)
	}
	return sum
}

func minus(x, y *big.Rat) *big.Rat { return new(big.Rat).Sub(x, y) }

func mul(l ...*big.Rat) *big.Rat {
	product := bigInt(1)
	for _, x := range l {
		product.Mul(product, x)
	}
	return product
}

func quo(x, y *big.Rat) *big.Rat { return new(big.Rat).Quo(x, y) }

// A force acts at a place.
type force struct {
	x    int
	lift *big.Rat
}

// secondBottom looks at each strip as a list of millimetres.
func secondBottom(s api.Ship, x, z int) (int, bool) {
	for _, t := range s.Stations {
		from := quo(bigInt(2*t.X-t.Width), bigInt(2))
		to := plus(from, bigInt(t.Width))
		if from.Cmp(bigInt(x)) > 0 || to.Cmp(bigInt(x)) <= 0 {
			continue
		}
		for k := range t.Halves {
			if t.Halves[k] > z {
				return t.Levels[k], true
			}
		}
	}
	return 0, false
}

// secondLoads is what the blocks carry at an attitude.
func secondLoads(d api.Docking, a api.Attitude) []force {
	var out []force
	for _, b := range d.Blocks {
		bottom, _ := secondBottom(d.Ship, b.X, b.Z)
		// how far the bottom is below the top of the block
		keel := plus(bigOf(a.Sink), mul(bigOf(a.Slope), bigInt(b.X)))
		pressed := plus(bigInt(b.Height-bottom), keel)
		load := new(big.Rat)
		if pressed.Sign() > 0 {
			load = mul(pressed, bigOf(b.Stiff))
		}
		if b.Side {
			load = plus(load, load)
		}
		out = append(out, force{b.X, load})
	}
	return out
}

// secondBuoyancy is what the water carries at an attitude to its surface.
func secondBuoyancy(d api.Docking, a api.Attitude) []force {
	var out []force
	for _, t := range d.Ship.Stations {
		y := plus(bigOf(a.Sink), mul(bigOf(a.Slope), bigInt(t.X)))
		area := new(big.Rat)
		for k, h := range t.Halves {
			top := bigInt(t.Levels[k+1])
			if y.Cmp(top) < 0 {
				top = y
			}
			if deep := minus(top, bigInt(t.Levels[k])); deep.Sign() > 0 {
				area = plus(area, mul(deep, bigInt(2*h)))
			}
		}
		out = append(out, force{t.X, mul(area, bigInt(t.Width), big.NewRat(int64(d.Density), 1000000000))})
	}
	return out
}

// toWater is the attitude to the water at a level.
func toWater(a api.Attitude, level api.Rat) api.Attitude {
	return api.Attitude{Sink: ofBig(plus(bigOf(a.Sink), bigOf(level))), Slope: a.Slope}
}

func weights(d api.Docking) []force {
	var out []force
	for _, l := range append([]api.Load{d.Ship.Light}, d.Ship.Items...) {
		out = append(out, force{l.X, bigInt(-l.Mass)})
	}
	return out
}

func sumOf(l []force) *big.Rat {
	sum := new(big.Rat)
	for _, f := range l {
		sum = plus(sum, f.lift)
	}
	return sum
}

// momentOf is the moment of forces about a place.
func momentOf(l []force, about int) *big.Rat {
	sum := new(big.Rat)
	for _, f := range l {
		sum = plus(sum, mul(f.lift, bigInt(about-f.x)))
	}
	return sum
}

// randomDocking has a ship of up to five strips, which often have gaps between them and steps, and
// some blocks, often at one place or at one height.
func randomDocking(r *rand.Rand) api.Docking {
	s := api.Ship{Name: "R", Length: 10000}
	room, end := 0, 0
	for range 1 + min(4, r.Intn(6)) {
		t := api.Station{Width: 900 + r.Intn(1200), Levels: []int{r.Intn(3) * r.Intn(120)}}
		t.X = end + (t.Width+1)/2 + r.Intn(2)*r.Intn(300)
		end = t.X + (t.Width+1)/2
		for k := range 1 + r.Intn(4) {
			t.Levels = append(t.Levels, t.Levels[k]+200+r.Intn(1500))
			t.Halves = append(t.Halves, r.Intn(4)*(200+r.Intn(700)))
			room += 2 * t.Halves[k] * t.Width * (t.Levels[k+1] - t.Levels[k]) / 1000000
		}
		s.Stations = append(s.Stations, t)
	}
	s.Light = api.Load{Name: "Light", Mass: 1 + r.Intn(1+room/3), X: end / 2, Z: r.Intn(1500), Free: r.Intn(3)}
	if r.Intn(4) > 0 {
		s.Light.X = end/3 + r.Intn(end/3)
	}
	s.Items = []api.Load{{Name: "Oil", Mass: r.Intn(1 + room/6), X: end / 2}}
	d := api.Docking{Ship: s, Density: 900 + r.Intn(201), GM: r.Intn(900) - 200, Overhang: r.Intn(4000)}
	for range r.Intn(9) {
		b := api.Block{X: r.Intn(end/400+1) * 400, Half: 1 + r.Intn(200), Height: 1000 + r.Intn(3)*r.Intn(60), Width: 1 + r.Intn(400)}
		b.Stiff = ratio(1+r.Intn(100), 1+r.Intn(3))
		b.Limit = r.Intn(1 + s.Light.Mass)
		if r.Intn(3) == 0 {
			b.Side, b.Z = true, 200+r.Intn(1200)
		}
		longer := d
		longer.Blocks = append(slices.Clone(d.Blocks), b)
		if docking.Check(longer) == api.OK {
			d = longer
		}
	}
	return d
}

// randomLevel is often one at which the ship touches the first blocks.
func randomLevel(r *rand.Rand, d api.Docking) api.Rat {
	if w, e := docking.Touch(d); e == api.OK && r.Intn(3) > 0 {
		return exact.AddRat(w, ratio(2-r.Intn(3)*r.Intn(400), 1+r.Intn(2)))
	}
	return ratio(r.Intn(4000)-300, 1+r.Intn(2))
}
