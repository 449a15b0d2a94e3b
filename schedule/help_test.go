package schedule_test

import (
	"fmt"
	"math"
	"math/rand"
	"reflect"
	"slices"
	"testing"

	"keelblock/api"
	"keelblock/schedule"
)

// want compares results; a nil slice and an empty one are shown the same.
func want(t *testing.T, what string, got, wanted any) {
	t.Helper()
	if shown(got) != shown(wanted) {
		t.Errorf("%s: %v, want %v", what, got, wanted)
	}
}

// shown is a value with its numbers (%v) and with the bounds of its texts (%q).
func shown(x any) string { return fmt.Sprintf("%T %v %q", x, x, x) }

// wantError demands an error, beside which all other results are zero values.
func wantError(t *testing.T, what string, wanted, got api.Errno, results ...any) {
	t.Helper()
	if got != wanted {
		t.Errorf("%s: error %d, want %d", what, got, wanted)
	}
	for _, x := range results {
		want(t, what+": a result beside an error", x, reflect.Zero(reflect.TypeOf(x)).Interface())
	}
}

// wantBounds demands that a number may be from least to most, and has the error e otherwise.
func wantBounds(t *testing.T, what string, least, most int, e api.Errno, errorOf func(n int) api.Errno) {
	t.Helper()
	for _, n := range []int{math.MinInt, least - 1, most + 1, math.MaxInt} {
		want(t, fmt.Sprint(what, " ", n), errorOf(n), e)
	}
	for _, n := range []int{least, (least + most) / 2, most} {
		want(t, fmt.Sprint(what, " ", n), errorOf(n), api.OK)
	}
}

// spans are the parts of the memory of all slices in a value, spare room included.
func spans(v reflect.Value) [][2]uintptr {
	var out [][2]uintptr
	switch v.Kind() {
	case reflect.Slice:
		if v.Cap() > 0 {
			out = append(out, [2]uintptr{v.Pointer(), v.Pointer() + uintptr(v.Cap())*v.Type().Elem().Size()})
		}
		for i := range v.Len() {
			out = append(out, spans(v.Index(i))...)
		}
	case reflect.Struct:
		for i := range v.NumField() {
			out = append(out, spans(v.Field(i))...)
		}
	}
	return out
}

// everything is a value as text, with what lies in the spare room of its lists.
func everything(v reflect.Value) string {
	text := ""
	switch v.Kind() {
	case reflect.Slice:
		v = v.Slice(0, v.Cap())
		for i := range v.Len() {
			text += everything(v.Index(i)) + ","
		}
		return "[" + text + "]"
	case reflect.Struct:
		for i := range v.NumField() {
			text += everything(v.Field(i)) + ";"
		}
		return "{" + text + "}"
	}
	return shown(v)
}

// spoil writes into all slices of a value.
func spoil(v reflect.Value) {
	switch v.Kind() {
	case reflect.Slice:
		for i := range v.Len() {
			spoil(v.Index(i))
			v.Index(i).SetZero()
		}
	case reflect.Struct:
		for i := range v.NumField() {
			if v.Field(i).Kind() == reflect.Slice {
				spoil(v.Field(i))
			}
		}
	}
}

// wantOwn calls f with the arguments and demands that they stay as they are, that the results
// share memory neither with them nor with each other, and that a second call has the same results,
// whatever was written into the first ones.
func wantOwn(t *testing.T, what string, f any, args ...any) {
	t.Helper()
	var in []reflect.Value
	var given, results [][2]uintptr
	for _, a := range args {
		in = append(in, reflect.ValueOf(a))
		given = append(given, spans(reflect.ValueOf(a))...)
	}
	texts := func(l []reflect.Value, text func(v reflect.Value) string) string {
		all := ""
		for _, v := range l {
			all += text(v) + "\n"
		}
		return all
	}
	before := texts(in, everything)
	first := reflect.ValueOf(f).Call(in)
	for _, x := range first {
		results = append(results, spans(x)...)
	}
	for i, a := range results {
		meets := func(b [2]uintptr) bool { return a[0] < b[1] && b[0] < a[1] }
		if slices.ContainsFunc(given, meets) {
			t.Errorf("%s: a result shares memory with an argument", what)
		}
		if slices.ContainsFunc(results[:i], meets) {
			t.Errorf("%s: two results share memory", what)
		}
	}
	plain := func(v reflect.Value) string { return shown(v) }
	original := texts(first, plain)
	for _, x := range first {
		spoil(x)
	}
	if again := texts(reflect.ValueOf(f).Call(in), plain); again != original {
		t.Errorf("%s: the second call returns %s, the first one %s", what, again, original)
	}
	if texts(in, everything) != before {
		t.Errorf("%s writes into its arguments", what)
	}
}

// between is a random number from least to most.
func between(r *rand.Rand, least, most int) int { return least + r.Intn(most-least+1) }

// roomy copies a list into one that has room behind its end.
func roomy[T any](l []T) []T { return append(make([]T, 0, len(l)+9), l...) }

// changed returns work after a change.
func changed(w api.Work, do func(w *api.Work)) api.Work {
	do(&w)
	return w
}

// modes are given by days and crew by turns.
func modes(numbers ...int) []api.Mode {
	var out []api.Mode
	for pair := range slices.Chunk(numbers, 2) {
		out = append(out, api.Mode{Days: pair[0], Crew: pair[1]})
	}
	return out
}

// item is one of the trade w without a permit and without the crane.
func item(name string, l []api.Mode, after ...string) api.Item {
	return api.Item{Name: name, Trade: "w", Modes: l, Kind: -1, After: after}
}

// work is that of the chapter's first example.
func work() api.Work {
	return api.Work{
		Items:  []api.Item{item("a", modes(2, 1)), item("b", modes(1, 2))},
		Trades: []api.Trade{{Name: "w", Crew: 2, Rate: 100}},
		Hire:   10,
		Last:   9,
	}
}

// queue is that of the second example, in which b waits for a.
func queue() api.Work {
	return changed(work(), func(w *api.Work) { w.Items[1].After = []string{"a"} })
}

// spaces is work with two items in spaces beside each other, as in the third example, and a third one.
func spaces() api.Work {
	x, y, z := item("x", modes(1, 1)), item("y", modes(1, 1, 3, 0)), item("z", modes(2, 0))
	x.Space, x.Kind, y.Space, y.Kind, z.Crane = "tank", api.HotWork, "hold", api.Spraying, true
	return api.Work{
		Items:      []api.Item{x, y, z},
		Trades:     []api.Trade{{Name: "w", Crew: 5, Rate: 7}},
		Spaces:     []api.Space{{Name: "tank", Next: []string{"hold"}}, {Name: "hold", Enclosed: true}, {Name: "deck"}},
		Exclusions: []api.Exclusion{{A: api.HotWork, B: api.Spraying, Reach: 1}},
		Outages:    []api.Outage{{From: 1, To: 2}},
		Hire:       3,
		Due:        2,
		Late:       20,
		Last:       8,
	}
}

func slot(name string, mode, day int) api.Slot { return api.Slot{Item: name, Mode: mode, Day: day} }

// days are slots of all items of work in their first modes.
func days(w api.Work, days ...int) []api.Slot {
	var out []api.Slot
	for i, x := range w.Items {
		out = append(out, slot(x.Name, 0, days[i]))
	}
	return out
}

func names(w api.Work) []string {
	var out []string
	for _, x := range w.Items {
		out = append(out, x.Name)
	}
	return out
}

// right demands work without an error.
func right(t *testing.T, w api.Work) api.Work {
	t.Helper()
	if e := schedule.CheckWork(w); e != api.OK {
		t.Fatalf("error %d of %+v", e, w)
	}
	return w
}
