package water_test

import (
	"fmt"
	"math/big"
	"math/rand"
	"reflect"
	"slices"
	"testing"

	"keelblock/api"
	"keelblock/exact"
)

// num is a normalized fraction.
func num(text string) api.Rat {
	x, e := exact.ParseRat(text)
	if e != api.OK {
		panic("no number: " + text)
	}
	return x
}

// want compares results; a nil slice and an empty one print the same.
func want(t *testing.T, what string, got, wanted any) {
	t.Helper()
	if fmt.Sprintf("%T %v", got, got) != fmt.Sprintf("%T %v", wanted, wanted) {
		t.Errorf("%s: %v, want %v", what, got, wanted)
	}
}

// wantError demands an error, beside which all other results are zero values.
func wantError(t *testing.T, what string, wanted, got api.Errno, results ...any) {
	t.Helper()
	if got != wanted {
		t.Errorf("%s: error %d, want %d", what, got, wanted)
	}
	for _, x := range results {
		want(t, what+": a result beside an error", x, reflect.Zero(reflect.TypeOf(x)).Interface())
	}
}

// spans are the parts of the memory of all slices in a value, spare room included.
func spans(v reflect.Value) [][2]uintptr {
	var out [][2]uintptr
	switch v.Kind() {
	case reflect.Slice, reflect.Array:
		if v.Kind() == reflect.Slice && v.Cap() > 0 {
			out = append(out, [2]uintptr{v.Pointer(), v.Pointer() + uintptr(v.Cap())*v.Type().Elem().Size()})
		}
		for i := range v.Len() {
			out = append(out, spans(v.Index(i))...)
		}
	case reflect.Struct:
		for i := range v.NumField() {
			out = append(out, spans(v.Field(i))...)
		}
	}
	return out
}

// everything is a value as text, with what lies in the spare room of its lists.
func everything(v reflect.Value) string {
	text := ""
	switch v.Kind() {
	case reflect.Slice:
		v = v.Slice(0, v.Cap())
		fallthrough
	case reflect.Array:
		for i := range v.Len() {
			text += everything(v.Index(i)) + ","
		}
		return "[" + text + "]"
	case reflect.Struct:
		for i := range v.NumField() {
			text += everything(v.Field(i)) + ";"
		}
		return "{" + text + "}"
	}
	return fmt.Sprint(v)
}

// wantOwn calls f with the arguments and demands that they stay as they are, that the results
// share memory neither with them nor with each other, and that a second call has the same results,
// whatever was written into the first ones.
func wantOwn(t *testing.T, what string, f any, args ...any) {
	t.Helper()
	var in []reflect.Value
	var given, results [][2]uintptr
	for _, a := range args {
		in = append(in, reflect.ValueOf(a))
		given = append(given, spans(reflect.ValueOf(a))...)
	}
	texts := func(l []reflect.Value, text func(v reflect.Value) string) string {
		all := ""
		for _, v := range l {
			all += text(v) + "\n"
		}
		return all
	}
	before := texts(in, everything)
	first := reflect.ValueOf(f).Call(in)
	for _, x := range first {
		results = append(results, spans(x)...)
	}
	for i, a := range results {
		meets := func(b [2]uintptr) bool { return a[0] < b[1] && b[0] < a[1] }
		if slices.ContainsFunc(given, meets) {
			t.Errorf("%s: a result shares memory with an argument", what)
		}
		if slices.ContainsFunc(results[:i], meets) {
			t.Errorf("%s: two results share memory", what)
		}
	}
	plain := func(v reflect.Value) string { return fmt.Sprint(v) }
	shown := texts(first, plain)
	for _, x := range first {
		spoil(x)
	}
	if again := texts(reflect.ValueOf(f).Call(in), plain); again != shown {
		t.Errorf("%s: the second call returns %s, the first one %s", what, again, shown)
	}
	if texts(in, everything) != before {
		t.Errorf("%s writes into its arguments", what)
	}
}

// spoil writes into all slices of a value.
func spoil(v reflect.Value) {
	switch v.Kind() {
	case reflect.Slice:
		for i := range v.Len() {
			spoil(v.Index(i))
			v.Index(i).SetZero()
		}
	case reflect.Struct:
		for i := range v.NumField() {
			spoil(v.Field(i))
		}
	}
}

// bigOf reads a fraction for a second opinion by math/big.
func bigOf(x api.Rat) *big.Rat {
	b, ok := new(big.Rat).SetString(exact.FormatRat(x))
	if !ok {
		panic("no number")
	}
	return b
}

// ofBig is the normalized fraction.
func ofBig(b *big.Rat) api.Rat { return num(b.RatString()) }

func bigInt(n int) *big.Rat { return new(big.Rat).SetInt64(int64(n)) }

func plus(l ...*big.Rat) *big.Rat {
	sum := new(big.Rat)
	for _, x := range l {
		sum.Add(sum, x)
	}
	return sum
}

func minus(x, y *big.Rat) *big.Rat { return new(big.Rat).Sub(x, y) }

func mul(l ...*big.Rat) *big.Rat {
	product := bigInt(1)
	for _, x := range l {
		product.Mul(product, x)
	}
	return product
}

func quo(x, y *big.Rat) *big.Rat { return new(big.Rat).Quo(x, y) }

// between is a random number from least to most.
func between(r *rand.Rand, least, most int) int { return least + r.Intn(most-least+1) }

// levels are a list of levels, or of steps.
func levels(l ...int) []int { return l }

// stepped is the basin of the chapter's first example.
func stepped() api.Basin {
	return api.Basin{Name: "Dock", Areas: []api.Area{{From: 0, Size: 100}, {From: 1000, Size: 200}}, Rim: 3000}
}

func box(name string) api.Basin {
	return api.Basin{Name: name, Areas: []api.Area{{From: 0, Size: 100}}, Rim: 2000}
}

// pair is the network of the chapter's third example.
func pair() api.Network {
	return api.Network{
		Basins: []api.Basin{box("A"), box("B")},
		Links:  []api.Link{{Name: "Gate", From: "A", To: "B", Rate: 1000000, Factor: 1000}},
	}
}

// holding is a state at minute 0, with all links open.
func holding(litres ...int) api.Water {
	w := api.Water{Litres: litres}
	for range 12 {
		w.Open = append(w.Open, true)
	}
	return w
}

// of returns the state with as many links as the network has.
func of(n api.Network, w api.Water) api.Water {
	w.Open = slices.Clone(w.Open[:len(n.Links)])
	return w
}

// yard has all that networks may have: steps, two basins, the sea, gates both ways and pumps.
func yard() api.Network {
	return api.Network{
		Basins: []api.Basin{stepped(), {Name: "Wet", Areas: []api.Area{{From: -500, Size: 70}, {From: 0, Size: 90}, {From: 900, Size: 50}}, Rim: 1500}},
		Sea:    []api.Mark{{Minute: 10, Level: 200}, {Minute: 70, Level: 1700}, {Minute: 100, Level: 1700}, {Minute: 160, Level: -300}},
		Links: []api.Link{
			{Name: "Flood", Kind: api.Gate, From: "", To: "Dock", Sill: 300, Rate: 9000, Factor: 20},
			{Name: "Cross", Kind: api.Gate, From: "Wet", To: "Dock", Sill: 100, Rate: 5000, Factor: 7},
			{Name: "Drain", Kind: api.Pump, From: "Dock", To: "", Rate: 4000, Lift: 900},
			{Name: "Lift", Kind: api.Pump, From: "Dock", To: "Wet", Rate: 2500, Lift: 1200},
		},
	}
}

// yardWater is a state of the yard.
func yardWater() api.Water {
	return api.Water{Minute: 5, Litres: []int{40000, 60000}, Open: []bool{true, false, true, false}}
}

// yardTurns come before, in and behind a run, twice in a minute, and more than one in a row.
func yardTurns() []api.Turn {
	return []api.Turn{
		{Minute: 4, Link: "Drain", Open: false},
		{Minute: 5, Link: "Drain", Open: false},
		{Minute: 20, Link: "Cross", Open: true},
		{Minute: 20, Link: "Flood", Open: false},
		{Minute: 20, Link: "Flood", Open: true},
		{Minute: 60, Link: "Flood", Open: false},
		{Minute: 75, Link: "Lift", Open: true},
		{Minute: 400, Link: "Drain", Open: true},
	}
}
