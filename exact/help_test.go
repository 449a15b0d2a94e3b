package exact_test

import (
	"math/big"
	"math/rand"
	"reflect"
	"slices"
	"testing"

	"keelblock/api"
	"keelblock/exact"
)

// The tests compute with math/big where they need a second opinion.

func bigInt(a api.Int) *big.Int {
	sum := new(big.Int)
	for _, x := range slices.Backward(a.Limbs) {
		sum.Lsh(sum, 16)
		sum.Add(sum, big.NewInt(int64(x)))
	}
	if a.Neg {
		sum.Neg(sum)
	}
	return sum
}

func bigRat(x api.Rat) *big.Rat {
	den := bigInt(x.Den)
	if den.Sign() == 0 {
		den.SetInt64(1)
	}
	return new(big.Rat).SetFrac(bigInt(x.Num), den)
}

// plainInt is the normalized integer.
func plainInt(b *big.Int) api.Int {
	out := api.Int{Neg: b.Sign() < 0}
	for left := new(big.Int).Abs(b); left.Sign() > 0; left.Rsh(left, 16) {
		out.Limbs = append(out.Limbs, uint16(new(big.Int).And(left, big.NewInt(65535)).Uint64()))
	}
	return out
}

// plainRat is the normalized fraction.
func plainRat(b *big.Rat) api.Rat {
	return api.Rat{Num: plainInt(b.Num()), Den: plainInt(b.Denom())}
}

// rat is a/b, normalized.
func rat(a, b int) api.Rat { return plainRat(big.NewRat(int64(a), int64(b))) }

// rats are integers as fractions.
func rats(l ...int) []api.Rat {
	out := []api.Rat{}
	for _, n := range l {
		out = append(out, rat(n, 1))
	}
	return out
}

// row is the inequality with these coefficients and this bound.
func row(bound int, coefs ...int) api.Row {
	return api.Row{Coefs: rats(coefs...), Bound: rat(bound, 1)}
}

// oddInt is the same integer, written in another way.
func oddInt(a api.Int) api.Int {
	if len(a.Limbs) == 0 {
		return api.Int{Neg: true, Limbs: []uint16{0, 0}}
	}
	return api.Int{Neg: a.Neg, Limbs: append(slices.Clone(a.Limbs), 0, 0)}
}

// oddRat is the same fraction, neither in lowest terms nor with a positive denominator.
func oddRat(x api.Rat) api.Rat {
	by := big.NewInt(-6)
	num, den := bigInt(x.Num), bigInt(x.Den)
	if den.Cmp(big.NewInt(1)) == 0 {
		return api.Rat{Num: oddInt(x.Num), Den: api.Int{Neg: true, Limbs: []uint16{0}}}
	}
	return api.Rat{Num: oddInt(plainInt(num.Mul(num, by))), Den: oddInt(plainInt(den.Mul(den, by)))}
}

func oddRats(l []api.Rat) []api.Rat {
	var out []api.Rat
	for _, x := range l {
		out = append(out, oddRat(x))
	}
	return out
}

// randomInt has limbs that are often close to their limits, where carries are.
func randomInt(r *rand.Rand, limbs int) api.Int {
	edges := []uint16{0, 1, 32767, 32768, 65534, 65535}
	out := api.Int{Neg: r.Intn(2) == 0}
	for range r.Intn(limbs + 1) {
		x := uint16(r.Intn(65536))
		if r.Intn(2) == 0 {
			x = edges[r.Intn(len(edges))]
		}
		out.Limbs = append(out.Limbs, x)
	}
	return out
}

func randomRat(r *rand.Rand, limbs int) api.Rat {
	return api.Rat{Num: randomInt(r, limbs), Den: randomInt(r, limbs)}
}

// want compares results; a nil slice and an empty one are the same.
func want(t *testing.T, what string, got, wanted any) {
	t.Helper()
	if !same(reflect.ValueOf(got), reflect.ValueOf(wanted)) {
		t.Errorf("%s: %+v, want %+v", what, got, wanted)
	}
}

func same(a, b reflect.Value) bool {
	if a.Type() != b.Type() {
		return false
	}
	switch a.Kind() {
	case reflect.Interface:
		return same(a.Elem(), b.Elem())
	case reflect.Slice:
		if a.Len() != b.Len() {
			return false
		}
		for i := range a.Len() {
			if !same(a.Index(i), b.Index(i)) {
				return false
			}
		}
		return true
	case reflect.Struct:
		for i := range a.NumField() {
			if !same(a.Field(i), b.Field(i)) {
				return false
			}
		}
		return true
	}
	return reflect.DeepEqual(a.Interface(), b.Interface())
}

// wantError demands an error, beside which all other results are zero values.
func wantError(t *testing.T, what string, wanted, got api.Errno, results ...any) {
	t.Helper()
	if got != wanted {
		t.Errorf("%s: error %d, want %d", what, got, wanted)
	}
	for _, x := range results {
		v := reflect.ValueOf(x)
		if v.Kind() == reflect.Slice && v.Len() > 0 || v.Kind() != reflect.Slice && !v.IsZero() {
			t.Errorf("%s: the result %+v beside an error", what, x)
		}
	}
}

// copied is a deep copy.
func copied(v reflect.Value) reflect.Value {
	switch v.Kind() {
	case reflect.Interface:
		out := reflect.New(v.Type()).Elem()
		out.Set(copied(v.Elem()))
		return out
	case reflect.Slice:
		if v.IsNil() {
			return v
		}
		out := reflect.MakeSlice(v.Type(), v.Len(), v.Len())
		for i := range v.Len() {
			out.Index(i).Set(copied(v.Index(i)))
		}
		return out
	case reflect.Struct:
		out := reflect.New(v.Type()).Elem()
		for i := range v.NumField() {
			out.Field(i).Set(copied(v.Field(i)))
		}
		return out
	}
	return v
}

// spans are the parts of the memory that the slices of a value use, spare room included.
func spans(v reflect.Value) [][2]uintptr {
	var out [][2]uintptr
	switch v.Kind() {
	case reflect.Interface:
		return spans(v.Elem())
	case reflect.Slice:
		if v.Cap() > 0 {
			out = append(out, [2]uintptr{v.Pointer(), v.Pointer() + uintptr(v.Cap())*v.Type().Elem().Size()})
		}
		for i := range v.Len() {
			out = append(out, spans(v.Index(i))...)
		}
	case reflect.Struct:
		for i := range v.NumField() {
			out = append(out, spans(v.Field(i))...)
		}
	}
	return out
}

func overlap(a, b [2]uintptr) bool { return a[0] < b[1] && b[0] < a[1] }

// wantOwn calls f with the arguments and demands that it leaves them as they are, and that its
// results share memory neither with them nor with each other.
func wantOwn(t *testing.T, what string, f any, args ...any) {
	t.Helper()
	before := copied(reflect.ValueOf(args)).Interface()
	var in []reflect.Value
	for _, a := range args {
		in = append(in, reflect.ValueOf(a))
	}
	var results [][2]uintptr
	for _, x := range reflect.ValueOf(f).Call(in) {
		results = append(results, spans(x)...)
	}
	if !reflect.DeepEqual(args, before) {
		t.Errorf("%s writes into its arguments", what)
	}
	given := spans(reflect.ValueOf(args))
	for i, a := range results {
		if slices.ContainsFunc(given, func(b [2]uintptr) bool { return overlap(a, b) }) {
			t.Errorf("%s: a result shares memory with an argument", what)
		}
		if slices.ContainsFunc(results[:i], func(b [2]uintptr) bool { return overlap(a, b) }) {
			t.Errorf("%s: two results share memory", what)
		}
	}
}

func format(l []api.Rat) []string {
	var out []string
	for _, x := range l {
		out = append(out, exact.FormatRat(x))
	}
	return out
}
