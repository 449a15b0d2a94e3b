package permit_test

import (
	"fmt"
	"testing"

	"keelblock/api"
	"keelblock/permit"
)

// P7.5

func TestStateOf(t *testing.T) {
	o := office(t, plan())
	done(t, o, "0 approve paint ann", "0 cancel go")
	wantStates(t, o, plan(), api.Requested, api.Cancelled, api.Approved, api.Requested)
	for _, name := range []string{"", "deck", "Weld"} {
		state, e := o.State(name)
		wantError(t, name, api.ErrMissing, e, state)
	}
}

func TestOpenOnes(t *testing.T) {
	o := office(t, plan())
	want(t, "at first", o.Open(), []string(nil))
	done(t, o, "7 gas tank 209 0", "7 gas hold 209 0")
	opened(t, o, 7, "pump", "paint", "go", "weld")
	want(t, "all", o.Open(), []string{"weld", "go", "paint", "pump"})
	done(t, o, "8 suspend paint")
	want(t, "the others", o.Open(), []string{"weld", "go", "pump"})
	want(t, "the time", o.Now(), 8)
}

func TestPeopleInside(t *testing.T) {
	o := office(t, plan())
	done(t, o, "0 gas tank 209 0")
	opened(t, o, 0, "pump", "go")
	done(t, o, "0 enter cy tank", "0 enter ann tank", "0 enter Bob tank", "0 enter dan deck", "0 enter b-1 deck", "0 enter b tank")
	inside := func(tank, deck, overdue []string) {
		t.Helper()
		want(t, "tank", o.Inside("tank"), tank)
		want(t, "deck", o.Inside("deck"), deck)
		want(t, "hold", o.Inside("hold"), []string(nil))
		want(t, "overdue", o.Overdue(), overdue)
		for _, space := range []string{"", "go", "Tank"} {
			want(t, "no space", o.Inside(space), []string(nil))
		}
	}
	inside([]string{"Bob", "ann", "b", "cy"}, []string{"b-1", "dan"}, nil)
	done(t, o, "1 suspend go")
	inside([]string{"Bob", "ann", "b", "cy"}, []string{"b-1", "dan"}, []string{"Bob", "ann", "b", "cy"})
	done(t, o, "1 leave ann", "2 leave dan")
	inside([]string{"Bob", "b", "cy"}, []string{"b-1"}, []string{"Bob", "b", "cy"})
	done(t, o, "2 resume go bob")
	inside([]string{"Bob", "b", "cy"}, []string{"b-1"}, nil)
	done(t, o, "600 tick")
	inside([]string{"Bob", "b", "cy"}, []string{"b-1"}, []string{"Bob", "b", "cy"})
}

// People of more than one space, and an entry permit for one of them.
func TestOverdueInManySpaces(t *testing.T) {
	o := office(t, row(nil, asked("a", api.Entry, "a"), asked("b", api.Entry, "b"), asked("d", api.Entry, "d"), asked("c", api.Entry, "c"), asked("paint", api.Spraying, "b")))
	done(t, o, "0 gas a 209 0", "0 gas b 209 0", "0 gas d 209 0")
	opened(t, o, 0, "a", "b", "d", "c", "paint")
	done(t, o, "0 enter z a", "0 enter y b", "0 enter x d", "0 enter w c", "0 suspend a", "0 suspend d", "0 suspend c")
	want(t, "overdue", o.Overdue(), []string{"x", "z"})
	done(t, o, "0 suspend b")
	want(t, "overdue", o.Overdue(), []string{"x", "y", "z"})
}

func TestSafe(t *testing.T) {
	for _, x := range []struct {
		oxygen, gas, minutes int
		entry, hot           bool
	}{
		{209, 0, 0, true, true}, {195, 10, 0, true, true}, {235, 10, 60, true, true}, {209, 11, 60, true, false}, {209, 50, 0, true, false},
		{209, 51, 0, false, false}, {194, 0, 0, false, false}, {236, 0, 0, false, false}, {209, 0, 61, false, false}, {0, 0, 0, false, false},
		{1000, 1000, 0, false, false}, {195, 50, 60, true, false}, {194, 50, 0, false, false}, {235, 11, 1, true, false},
	} {
		o := office(t, plan())
		done(t, o, fmt.Sprint("9 gas tank ", x.oxygen, " ", x.gas), fmt.Sprint(9+x.minutes, " tick"))
		entry, hot, e := o.Safe("tank")
		want(t, fmt.Sprint("the tank with ", x), []any{entry, hot, e}, []any{x.entry, x.hot, api.OK})
		entry, hot, e = o.Safe("hold")
		want(t, "the hold, which was not tested", []any{entry, hot, e}, []any{false, false, api.OK})
		done(t, o, fmt.Sprint(o.Now(), " gas deck 0 1000"))
		entry, hot, e = o.Safe("deck")
		want(t, "the deck", []any{entry, hot, e}, []any{true, true, api.OK})
	}
	o := office(t, plan())
	for _, space := range []string{"", "weld", "Deck"} {
		entry, hot, e := o.Safe(space)
		wantError(t, space, api.ErrMissing, e, entry, hot)
	}
	entry, hot, e := o.Safe("tank")
	want(t, "the tank before any test", []any{entry, hot, e}, []any{false, false, api.OK})
}

// The limits of GasMinutes.
func TestSafeFor(t *testing.T) {
	for _, minutes := range []int{1, 10000} {
		o := office(t, changed(plan(), func(p *api.PermitPlan) { p.GasMinutes = minutes }))
		done(t, o, "5 gas hold 209 0", fmt.Sprint(5+minutes, " tick"))
		entry, _, _ := o.Safe("hold")
		want(t, "good air", entry, true)
		done(t, o, fmt.Sprint(6+minutes, " tick"))
		entry, _, _ = o.Safe("hold")
		want(t, "old air", entry, false)
	}
}

// Why answers whatever the state of the permit is.
func TestWhy(t *testing.T) {
	o := office(t, plan())
	why := func(name string, wanted ...api.Reason) {
		t.Helper()
		l, e := o.Why(name)
		want(t, "why "+name, []any{l, e}, []any{wanted, api.OK})
	}
	why("go", api.Reason{Err: api.ErrState, Names: []string{"pump"}}, api.Reason{Err: api.ErrUnsafe, Names: []string{"tank"}})
	why("weld", api.Reason{Err: api.ErrUnsafe, Names: []string{"tank"}})
	why("pump")
	done(t, o, "0 cancel go")
	opened(t, o, 0, "pump")
	why("go", api.Reason{Err: api.ErrUnsafe, Names: []string{"tank"}})
	why("pump")
	done(t, o, "600 gas tank 209 11")
	why("go", api.Reason{Err: api.ErrState, Names: []string{"pump"}})
	why("weld", api.Reason{Err: api.ErrUnsafe, Names: []string{"tank"}})
	for _, name := range []string{"", "deck", "Weld"} {
		l, e := o.Why(name)
		wantError(t, name, api.ErrMissing, e, l)
	}
}

// An open permit does not stand in its own way, but others of its kind do.
func TestWhyOfTwoOfAKind(t *testing.T) {
	p := row([]api.Exclusion{{A: api.Radiography, B: api.Radiography, Reach: 1}}, asked("x", api.Radiography, "c"), asked("y", api.Radiography, "b"))
	o := office(t, p)
	opened(t, o, 0, "x")
	l, e := o.Why("x")
	want(t, "why x", []any{l, e}, []any{[]api.Reason(nil), api.OK})
	l, e = o.Why("y")
	want(t, "why y", []any{l, e}, []any{[]api.Reason{{Err: api.ErrInterlock, Names: []string{"x"}}}, api.OK})
}

// R5, and the office without a plan.
func TestOfficesOfNothing(t *testing.T) {
	for _, x := range []struct {
		o     *permit.Office
		e, e2 api.Errno // of an event, and of a question
	}{{nil, api.ErrNil, api.ErrNil}, {&permit.Office{}, api.ErrMissing, api.ErrMissing}} {
		for op := 1; op < 12; op++ {
			wantTry(t, x.o, api.Event{Op: op, Name: "weld", Space: "deck", Person: "ann", To: 9}, x.e)
		}
		state, e := x.o.State("weld")
		wantError(t, "State", x.e2, e, state)
		entry, hot, e := x.o.Safe("deck")
		wantError(t, "Safe", x.e2, e, entry, hot)
		l, e := x.o.Why("weld")
		wantError(t, "Why", x.e2, e, l)
		want(t, "Now", x.o.Now(), 0)
		want(t, "Open", x.o.Open(), []string(nil))
		want(t, "Inside", x.o.Inside("deck"), []string(nil))
		want(t, "Overdue", x.o.Overdue(), []string(nil))
		want(t, "Events", x.o.Events(), []api.Event(nil))
	}
	var none *permit.Office
	wantTry(t, none, api.Event{Op: 12, At: -1}, api.ErrNil)
	wantTry(t, none, api.Event{}, api.ErrNil)
	wantTry(t, &permit.Office{}, api.Event{At: 5}, api.OK)
}
