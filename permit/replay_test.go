package permit_test

import (
	"fmt"
	"testing"

	"keelblock/api"
	"keelblock/permit"
)

// P7.6

func TestEvents(t *testing.T) {
	o := office(t, plan())
	want(t, "at first", o.Events(), []api.Event(nil))
	odd := api.Event{At: 3, Op: api.EventCancel, Name: "go", Space: "?", Person: "1", Oxygen: -1, Gas: 2000, To: -7}
	var accepted []api.Event
	for _, x := range []struct {
		x api.Event
		e api.Errno
	}{
		{event(t, "0 approve weld ann"), api.OK},
		{event(t, "1 open weld ann"), api.ErrSigned},
		{odd, api.OK},
		{odd, api.ErrState},
		{event(t, "2 tick"), api.ErrOrder},
		{event(t, "3 tick"), api.OK},
		{event(t, "3 tick"), api.OK},
	} {
		wantTry(t, o, x.x, x.e)
		if x.e == api.OK {
			accepted = append(accepted, x.x)
		}
		want(t, "the events", o.Events(), accepted)
	}
}

func TestReplay(t *testing.T) {
	var l []api.Event
	for _, text := range []string{"0 approve weld ann", "5 gas tank 209 8", "5 open weld bob", "9 tick", "65 cancel paint", "66 enter cy tank", "80 tick", "70 tick"} {
		l = append(l, event(t, text))
	}
	for n := range len(l) + 1 {
		o, count, e := permit.Replay(plan(), l[:n])
		wantCount, wantE := n, api.OK
		if n > 5 {
			wantCount, wantE = 5, api.ErrUnsafe
		}
		want(t, fmt.Sprint("the replay of ", n), []any{count, e}, []any{wantCount, wantE})
		want(t, "the events", o.Events(), l[:wantCount])
		want(t, "the time", o.Now(), []int{0, 0, 5, 5, 9, 65}[wantCount])
		open := []string{"weld"}
		if wantCount < 3 {
			open = nil
		}
		// the refused event at 66 would have suspended it
		want(t, "the open permits", o.Open(), open)
	}
	o, count, e := permit.Replay(plan(), []api.Event{l[0], {At: 9, Op: api.EventTick}, {At: 8, Op: api.EventTick}, {Op: 12}})
	want(t, "the replay", []any{o.Now(), count, e}, []any{9, 2, api.ErrOrder})
	o, count, e = permit.Replay(plan(), []api.Event{{At: 9, Op: api.EventGas}})
	want(t, "the replay of nothing", []any{o.Now(), count, e}, []any{0, 0, api.ErrMissing})
	// the office goes on
	done(t, o, "3 approve weld ann")
}

// An office and a replay keep nothing of their arguments.
func TestOfficesKeepNothing(t *testing.T) {
	texts := []string{"0 approve go ann", "0 approve pump ann", "0 approve weld ann", "1 gas tank 209 0", "1 gas hold 209 0"}
	given := func() api.PermitPlan {
		return changed(plan(), func(p *api.PermitPlan) { p.Permits[0].Space = "hold" })
	}
	p := given()
	var l []api.Event
	for _, text := range texts {
		l = append(l, event(t, text))
	}
	first := office(t, p)
	second, _, e := permit.Replay(p, l)
	want(t, "the error", e, api.OK)
	done(t, first, texts...)
	for i := range p.Spaces {
		clear(p.Spaces[i].Next)
	}
	for i := range p.Permits {
		clear(p.Permits[i].Locks)
	}
	clear(p.Spaces)
	clear(p.Exclusions)
	clear(p.Permits)
	clear(l)
	for _, o := range []*permit.Office{first, second} {
		wantDo(t, o, "1 open go bob", api.ErrState, "pump")
		opened(t, o, 1, "paint")
		wantDo(t, o, "1 open weld bob", api.ErrInterlock, "paint")
		done(t, o, "1 open pump bob", "1 open go bob", "1 enter cy tank", "1 alarm hold")
		wantStates(t, o, given(), api.Approved, api.Suspended, api.Suspended, api.Open)
		want(t, "the first event", o.Events()[0], event(t, texts[0]))
	}
}

// R3: results are new memory; a refused event is refused again with the same names.
func TestResultsAreNew(t *testing.T) {
	p := plan()
	p.Spaces, p.Exclusions, p.Permits = roomy(p.Spaces), roomy(p.Exclusions), roomy(p.Permits)
	p.Permits[1].Locks = roomy([]string{"pump", "pump"})
	wantOwn(t, "CheckPlan", permit.CheckPlan, p)
	wantOwn(t, "Near", permit.Near, p, "deck", "tank")
	wantOwn(t, "Conflict", permit.Conflict, p, "weld", "paint")
	wantOwn(t, "Needs", permit.Needs, p, "weld")
	wantOwn(t, "Compatible", permit.Compatible, p, roomy([]string{"weld", "go"}))
	wantOwn(t, "Reachable", permit.Reachable, p)
	wantOwn(t, "Maximal", permit.Maximal, p)
	o := office(t, p)
	for _, text := range []string{"0 open go bob", "0 approve go ann", "0 open go bob", "0 gas tank 209 9", "0 approve pump ann", "0 open pump bob", "0 open go bob", "1 enter cy tank", "1 close go", "1 close pump", "99 tick"} {
		x := event(t, text)
		if _, e := o.Do(x); e != api.OK {
			wantOwn(t, "Do of "+text, o.Do, x)
		}
		wantOwn(t, "Open", o.Open)
		wantOwn(t, "Inside", o.Inside, "tank")
		wantOwn(t, "Overdue", o.Overdue)
		wantOwn(t, "Events", o.Events)
		for _, name := range []string{"weld", "go", "paint", "pump", "?"} {
			wantOwn(t, "Why", o.Why, name)
			wantOwn(t, "Needs", permit.Needs, p, name)
		}
	}
}
