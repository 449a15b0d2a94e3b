package berth_test

import (
	"fmt"
	"math"
	"math/big"
	"math/rand"
	"reflect"
	"slices"
	"testing"

	"keelblock/api"
	"keelblock/exact"
)

// num is a normalized fraction.
func num(text string) api.Rat {
	x, e := exact.ParseRat(text)
	if e != api.OK {
		panic("no number: " + text)
	}
	return x
}

// want compares results; a nil slice and an empty one print the same.
func want(t *testing.T, what string, got, wanted any) {
	t.Helper()
	if fmt.Sprintf("%T %v", got, got) != fmt.Sprintf("%T %v", wanted, wanted) {
		t.Errorf("%s: %v, want %v", what, got, wanted)
	}
}

// wantError demands an error, beside which all other results are zero values.
func wantError(t *testing.T, what string, wanted, got api.Errno, results ...any) {
	t.Helper()
	if got != wanted {
		t.Errorf("%s: error %d, want %d", what, got, wanted)
	}
	for _, x := range results {
		want(t, what+": a result beside an error", x, reflect.Zero(reflect.TypeOf(x)).Interface())
	}
}

// spans are the parts of the memory of all slices in a value, spare room included.
func spans(v reflect.Value) [][2]uintptr {
	var out [][2]uintptr
	switch v.Kind() {
	case reflect.Slice, reflect.Array:
		if v.Kind() == reflect.Slice && v.Cap() > 0 {
			out = append(out, [2]uintptr{v.Pointer(), v.Pointer() + uintptr(v.Cap())*v.Type().Elem().Size()})
		}
		for i := range v.Len() {
			out = append(out, spans(v.Index(i))...)
		}
	case reflect.Struct:
		for i := range v.NumField() {
			out = append(out, spans(v.Field(i))...)
		}
	}
	return out
}

// everything is a value as text, with what lies in the spare room of its lists.
func everything(v reflect.Value) string {
	text := ""
	switch v.Kind() {
	case reflect.Slice:
		v = v.Slice(0, v.Cap())
		fallthrough
	case reflect.Array:
		for i := range v.Len() {
			text += everything(v.Index(i)) + ","
		}
		return "[" + text + "]"
	case reflect.Struct:
		for i := range v.NumField() {
			text += everything(v.Field(i)) + ";"
		}
		return "{" + text + "}"
	}
	return fmt.Sprint(v)
}

// wantOwn calls f with the arguments and demands that they stay as they are, that the results
// share memory neither with them nor with each other, and that a second call has the same results,
// whatever was written into the first ones.
func wantOwn(t *testing.T, what string, f any, args ...any) {
	t.Helper()
	var in []reflect.Value
	var given, results [][2]uintptr
	for _, a := range args {
		in = append(in, reflect.ValueOf(a))
		given = append(given, spans(reflect.ValueOf(a))...)
	}
	texts := func(l []reflect.Value, text func(v reflect.Value) string) string {
		all := ""
		for _, v := range l {
			all += text(v) + "\n"
		}
		return all
	}
	before := texts(in, everything)
	first := reflect.ValueOf(f).Call(in)
	for _, x := range first {
		results = append(results, spans(x)...)
	}
	for i, a := range results {
		meets := func(b [2]uintptr) bool { return a[0] < b[1] && b[0] < a[1] }
		if slices.ContainsFunc(given, meets) {
			t.Errorf("%s: a result shares memory with an argument", what)
		}
		if slices.ContainsFunc(results[:i], meets) {
			t.Errorf("%s: two results share memory", what)
		}
	}
	plain := func(v reflect.Value) string { return fmt.Sprint(v) }
	shown := texts(first, plain)
	for _, x := range first {
		spoil(x)
	}
	if again := texts(reflect.ValueOf(f).Call(in), plain); again != shown {
		t.Errorf("%s: the second call returns %s, the first one %s", what, again, shown)
	}
	if texts(in, everything) != before {
		t.Errorf("%s writes into its arguments", what)
	}
}

// spoil writes into all slices of a value.
func spoil(v reflect.Value) {
	switch v.Kind() {
	case reflect.Slice:
		for i := range v.Len() {
			spoil(v.Index(i))
			v.Index(i).SetZero()
		}
	case reflect.Struct:
		for i := range v.NumField() {
			spoil(v.Field(i))
		}
	}
}

// bigOf reads a fraction for a second opinion by math/big.
func bigOf(x api.Rat) *big.Rat {
	b, ok := new(big.Rat).SetString(exact.FormatRat(x))
	if !ok {
		panic("no number")
	}
	return b
}

// ofBig is the normalized fraction.
func ofBig(b *big.Rat) api.Rat { return num(b.RatString()) }

func bigInt(n int) *big.Rat { return new(big.Rat).SetInt64(int64(n)) }

func plus(l ...*big.Rat) *big.Rat {
	sum := new(big.Rat)
	for _, x := range l {
		sum.Add(sum, x)
	}
	return sum
}

func minus(x, y *big.Rat) *big.Rat { return new(big.Rat).Sub(x, y) }

func mul(l ...*big.Rat) *big.Rat {
	product := bigInt(1)
	for _, x := range l {
		product.Mul(product, x)
	}
	return product
}

func quo(x, y *big.Rat) *big.Rat { return new(big.Rat).Quo(x, y) }

// between is a random number from least to most.
func between(r *rand.Rand, least, most int) int { return least + r.Intn(most-least+1) }

// wantBounds demands that a number may be from least to most, and is api.ErrRange otherwise.
func wantBounds(t *testing.T, what string, least, most int, errorOf func(n int) api.Errno) {
	t.Helper()
	for _, n := range []int{math.MinInt, least - 1, most + 1, math.MaxInt} {
		want(t, fmt.Sprint(what, " ", n), errorOf(n), api.ErrRange)
	}
	for _, n := range []int{least, (least + most) / 2, most} {
		want(t, fmt.Sprint(what, " ", n), errorOf(n), api.OK)
	}
}

// wantListErrors demands the errors of a list of named things, of which some are right, and the
// wrong ones have the error e.
func wantListErrors[T any](t *testing.T, check func([]T) api.Errno, most int, right, wrong func(name string) T, e api.Errno) {
	t.Helper()
	var full []T
	for i := range most {
		full = append(full, right(fmt.Sprint("N", i)))
	}
	for _, x := range []struct {
		what   string
		l      []T
		wanted api.Errno
	}{
		{"nothing", nil, api.OK},
		{"as many as there may be", full, api.OK},
		{"too many", append(slices.Clone(full), right("More")), api.ErrLarge},
		{"too many before a name", append(slices.Clone(full), right("")), api.ErrLarge},
		{"too many before its error", append([]T{wrong("A")}, full...), api.ErrLarge},
		{"no name", []T{right("")}, api.ErrName},
		{"a long name", []T{right("Abcdefghijkl"), right("Abcdefghijklm")}, api.ErrName},
		{"a name before its error", []T{wrong("1")}, api.ErrName},
		{"a name twice", []T{right("A"), right("B"), right("A")}, api.ErrExists},
		{"a name twice before its error", []T{right("A"), wrong("A")}, api.ErrExists},
		{"an error", []T{right("A"), wrong("B")}, e},
		{"an error before the next name", []T{wrong("A"), right("")}, e},
		{"an error before the same name", []T{wrong("A"), right("A")}, e},
	} {
		want(t, x.what, check(x.l), x.wanted)
	}
}

// once is a list of one thing.
func once[T any](x T) []T { return []T{x} }

// changed returns a thing after a change.
func changed[T any](x T, do func(*T)) T {
	do(&x)
	return x
}
