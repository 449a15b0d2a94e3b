package permit_test

import (
	"fmt"
	"math"
	"math/rand"
	"reflect"
	"slices"
	"testing"

	"keelblock/api"
	"keelblock/permit"
)

// want compares results; a nil slice and an empty one are shown the same.
func want(t *testing.T, what string, got, wanted any) {
	t.Helper()
	if shown(got) != shown(wanted) {
		t.Errorf("%s: %v, want %v", what, got, wanted)
	}
}

// shown is a value with its numbers (%v) and with the bounds of its texts (%q).
func shown(x any) string { return fmt.Sprintf("%T %v %q", x, x, x) }

// wantError demands an error, beside which all other results are zero values.
func wantError(t *testing.T, what string, wanted, got api.Errno, results ...any) {
	t.Helper()
	if got != wanted {
		t.Errorf("%s: error %d, want %d", what, got, wanted)
	}
	for _, x := range results {
		want(t, what+": a result beside an error", x, reflect.Zero(reflect.TypeOf(x)).Interface())
	}
}

// wantBounds demands that a number may be from least to most, and has the error e otherwise.
func wantBounds(t *testing.T, what string, least, most int, e api.Errno, errorOf func(n int) api.Errno) {
	t.Helper()
	for _, n := range []int{math.MinInt, least - 1, most + 1, math.MaxInt} {
		want(t, fmt.Sprint(what, " ", n), errorOf(n), e)
	}
	for _, n := range []int{least, (least + most) / 2, most} {
		want(t, fmt.Sprint(what, " ", n), errorOf(n), api.OK)
	}
}

// spans are the parts of the memory of all slices in a value, spare room included.
func spans(v reflect.Value) [][2]uintptr {
	var out [][2]uintptr
	switch v.Kind() {
	case reflect.Slice:
		if v.Cap() > 0 {
			out = append(out, [2]uintptr{v.Pointer(), v.Pointer() + uintptr(v.Cap())*v.Type().Elem().Size()})
		}
		for i := range v.Len() {
			out = append(out, spans(v.Index(i))...)
		}
	case reflect.Struct:
		for i := range v.NumField() {
			out = append(out, spans(v.Field(i))...)
		}
	}
	return out
}

// everything is a value as text, with what lies in the spare room of its lists.
func everything(v reflect.Value) string {
	text := ""
	switch v.Kind() {
	case reflect.Slice:
		v = v.Slice(0, v.Cap())
		for i := range v.Len() {
			text += everything(v.Index(i)) + ","
		}
		return "[" + text + "]"
	case reflect.Struct:
		for i := range v.NumField() {
			text += everything(v.Field(i)) + ";"
		}
		return "{" + text + "}"
	}
	return shown(v)
}

// spoil writes into all slices of a value.
func spoil(v reflect.Value) {
	switch v.Kind() {
	case reflect.Slice:
		for i := range v.Len() {
			spoil(v.Index(i))
			v.Index(i).SetZero()
		}
	case reflect.Struct:
		for i := range v.NumField() {
			spoil(v.Field(i))
		}
	}
}

// wantOwn calls f with the arguments and demands that they stay as they are, that the results
// share memory neither with them nor with each other, and that a second call has the same results,
// whatever was written into the first ones.
func wantOwn(t *testing.T, what string, f any, args ...any) {
	t.Helper()
	var in []reflect.Value
	var given, results [][2]uintptr
	for _, a := range args {
		in = append(in, reflect.ValueOf(a))
		given = append(given, spans(reflect.ValueOf(a))...)
	}
	texts := func(l []reflect.Value, text func(v reflect.Value) string) string {
		all := ""
		for _, v := range l {
			all += text(v) + "\n"
		}
		return all
	}
	before := texts(in, everything)
	first := reflect.ValueOf(f).Call(in)
	for _, x := range first {
		results = append(results, spans(x)...)
	}
	for i, a := range results {
		meets := func(b [2]uintptr) bool { return a[0] < b[1] && b[0] < a[1] }
		if slices.ContainsFunc(given, meets) {
			t.Errorf("%s: a result shares memory with an argument", what)
		}
		if slices.ContainsFunc(results[:i], meets) {
			t.Errorf("%s: two results share memory", what)
		}
	}
	plain := func(v reflect.Value) string { return shown(v) }
	original := texts(first, plain)
	for _, x := range first {
		spoil(x)
	}
	if again := texts(reflect.ValueOf(f).Call(in), plain); again != original {
		t.Errorf("%s: the second call returns %s, the first one %s", what, again, original)
	}
	if texts(in, everything) != before {
		t.Errorf("%s writes into its arguments", what)
	}
}

// between is a random number from least to most.
func between(r *rand.Rand, least, most int) int { return least + r.Intn(most-least+1) }

// roomy copies a list into one that has room behind its end.
func roomy[T any](l []T) []T { return append(make([]T, 0, len(l)+9), l...) }

// changed returns a plan after a change.
func changed(p api.PermitPlan, do func(p *api.PermitPlan)) api.PermitPlan {
	do(&p)
	return p
}

// plan is that of the chapter's examples.
func plan() api.PermitPlan {
	return api.PermitPlan{
		Spaces: []api.Space{
			{Name: "deck", Next: []string{"tank"}},
			{Name: "tank", Enclosed: true},
			{Name: "hold", Enclosed: true, Next: []string{"tank"}},
		},
		Exclusions: permit.Standard(),
		Permits: []api.Permit{
			{Name: "weld", Kind: api.HotWork, Space: "deck", To: 600},
			{Name: "go", Kind: api.Entry, Space: "tank", To: 600, Locks: []string{"pump"}},
			{Name: "paint", Kind: api.Spraying, Space: "hold", To: 600},
			{Name: "pump", Kind: api.Isolation, Space: "tank", To: 600},
		},
		GasMinutes: 60,
	}
}

// asked is a permit without locks from 0 to 600.
func asked(name string, kind int, space string, locks ...string) api.Permit {
	return api.Permit{Name: name, Kind: kind, Space: space, To: 600, Locks: locks}
}

// office is a new one of a plan without an error.
func office(t *testing.T, p api.PermitPlan) *permit.Office {
	t.Helper()
	o, e := permit.New(p)
	if e != api.OK || o == nil {
		t.Fatalf("no office: error %d", e)
	}
	return o
}

// event is one with a text.
func event(t *testing.T, text string) api.Event {
	t.Helper()
	x, e := permit.ParseEvent(text)
	if e != api.OK {
		t.Fatalf("no event: %q", text)
	}
	return x
}

// done does events, all of which are accepted.
func done(t *testing.T, o *permit.Office, texts ...string) {
	t.Helper()
	for _, text := range texts {
		wantDo(t, o, text, api.OK)
	}
}

// wantDo tries an event and demands its error and its witnesses.
func wantDo(t *testing.T, o *permit.Office, text string, e api.Errno, names ...string) {
	t.Helper()
	wantTry(t, o, event(t, text), e, names...)
}

func wantTry(t *testing.T, o *permit.Office, x api.Event, e api.Errno, names ...string) {
	t.Helper()
	got, err := o.Do(x)
	want(t, fmt.Sprintf("the event %+v", x), []any{got, err}, []any{names, e})
}

// wantStates demands the states of all permits of a plan, in order.
func wantStates(t *testing.T, o *permit.Office, p api.PermitPlan, states ...int) {
	t.Helper()
	var got []int
	for _, x := range p.Permits {
		state, e := o.State(x.Name)
		want(t, "the error of the state of "+x.Name, e, api.OK)
		got = append(got, state)
	}
	want(t, fmt.Sprint("the states at ", o.Now()), got, states)
}

// opened opens permits at a time, all of which are requested.
func opened(t *testing.T, o *permit.Office, at int, names ...string) {
	t.Helper()
	for _, name := range names {
		done(t, o, fmt.Sprint(at, " approve ", name, " ann"), fmt.Sprint(at, " open ", name, " bob"))
	}
}
