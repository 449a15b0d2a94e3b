package permit_test

import (
	"fmt"
	"math/rand"
	"slices"
	"testing"

	"keelblock/api"
	"keelblock/permit"
)

// P7.4 to P7.6, P7.8 and P7.9, whatever events are tried.

// answers are those to all questions about a plan, but for the time.
func answers(o *permit.Office, p api.PermitPlan) string {
	text := fmt.Sprintf("%q %q", o.Open(), o.Overdue())
	for _, x := range p.Permits {
		state, e := o.State(x.Name)
		l, f := o.Why(x.Name)
		text += fmt.Sprintf(" %s: %v %v %v %v", x.Name, state, e, l, f)
	}
	for _, s := range p.Spaces {
		entry, hot, e := o.Safe(s.Name)
		text += fmt.Sprintf(" %s: %v %v %v %q", s.Name, entry, hot, e, o.Inside(s.Name))
	}
	return text
}

// secondAnswers are the same by a second opinion.
func secondAnswers(o *secondOffice) string {
	p := o.p
	overdue := o.who(func(space string) bool {
		s, _ := secondSpace(p, space)
		return s.Enclosed && len(o.entries(space)) == 0
	})
	text := fmt.Sprintf("%q %q", o.open(func(int, api.Permit) bool { return true }), overdue)
	for i, x := range p.Permits {
		text += fmt.Sprintf(" %s: %v %v %v %v", x.Name, o.states[i], api.OK, o.why(x), api.OK)
	}
	for _, s := range p.Spaces {
		entry, hot := o.air(s.Name)
		inside := o.who(func(space string) bool { return space == s.Name })
		text += fmt.Sprintf(" %s: %v %v %v %q", s.Name, entry, hot, api.OK, inside)
	}
	return text
}

func TestOfficesBySecondOpinion(t *testing.T) {
	r := rand.New(rand.NewSource(74))
	count := map[string]int{}
	for range 1500 {
		p := randomPlan(r)
		o, other := office(t, p), newSecond(p)
		for range 60 {
			x := randomEvent(r, p, o)
			names, e := o.Do(x)
			names2, e2 := other.do(x)
			if e != e2 || !slices.Equal(names, names2) || o.Now() != other.now {
				t.Fatalf("%+v: %+v: %q, error %d, at %d; want %q, error %d, at %d", p, x, names, e, o.Now(), names2, e2, other.now)
			}
			if got, wanted := answers(o, p), secondAnswers(other); got != wanted {
				t.Fatalf("%+v: behind %+v:\n%s, want\n%s", p, x, got, wanted)
			}
			count[fmt.Sprint(x.Op, " ", e)]++
		}
		if !slices.Equal(o.Events(), other.events) {
			t.Fatalf("%+v: the events %+v, want %+v", p, o.Events(), other.events)
		}
	}
	wantSeen(t, count)
}

// wantSeen demands that every error of every event was met.
func wantSeen(t *testing.T, count map[string]int) {
	t.Helper()
	many := map[int][]api.Errno{
		0:  {api.OK},
		1:  {api.OK, api.ErrState, api.ErrMissing, api.ErrName},
		2:  {api.OK, api.ErrState, api.ErrMissing, api.ErrName, api.ErrSigned, api.ErrRange, api.ErrInterlock, api.ErrUnsafe, api.ErrClash},
		3:  {api.OK, api.ErrState, api.ErrMissing},
		4:  {api.OK, api.ErrState, api.ErrMissing, api.ErrName, api.ErrSigned, api.ErrInterlock, api.ErrUnsafe, api.ErrClash},
		5:  {api.OK, api.ErrState, api.ErrMissing, api.ErrInterlock, api.ErrUnsafe},
		6:  {api.OK, api.ErrState, api.ErrMissing},
		7:  {api.OK, api.ErrMissing, api.ErrRange},
		8:  {api.OK, api.ErrMissing, api.ErrName, api.ErrState, api.ErrUnsafe, api.ErrClash},
		9:  {api.OK, api.ErrMissing, api.ErrName},
		10: {api.OK, api.ErrMissing},
		11: {api.OK, api.ErrState, api.ErrMissing, api.ErrName, api.ErrRange},
	}
	for op, errors := range many {
		for _, e := range append(errors, api.ErrOrder, api.ErrRange) {
			if count[fmt.Sprint(op, " ", e)] < 4 {
				t.Errorf("the event %d has the error %d too seldom", op, e)
			}
		}
	}
}

// isSound demands P7.8 of an office: what is open may be open together, and now.
func isSound(t *testing.T, o *permit.Office, p api.PermitPlan, ends map[string]int, reachable [][]string) {
	t.Helper()
	open := o.Open()
	in := func(l []string) bool { return slices.Equal(l, open) }
	if !slices.ContainsFunc(reachable, in) {
		t.Errorf("%+v: %q is not reachable", p, open)
	}
	possible, e := permit.Compatible(p, open)
	want(t, "the open permits are possible", []any{possible, e}, []any{true, api.OK})
	for _, x := range p.Permits {
		if !slices.Contains(open, x.Name) {
			continue
		}
		if o.Now() < x.From || o.Now() >= ends[x.Name] {
			t.Errorf("%s is open at %d", x.Name, o.Now())
		}
		needs, _ := permit.Needs(p, x.Name)
		for _, space := range needs {
			entry, hot, _ := o.Safe(space)
			if !entry || x.Kind == api.HotWork && !hot {
				t.Errorf("%s is open with foul air in %s", x.Name, space)
			}
		}
		for _, other := range open {
			if conflict, _ := permit.Conflict(p, x.Name, other); conflict {
				t.Errorf("%s and %s are open", x.Name, other)
			}
		}
	}
}

func TestTheInterlock(t *testing.T) {
	r := rand.New(rand.NewSource(78))
	most := 0
	for range 600 {
		p := randomPlan(r)
		o := office(t, p)
		reachable, _ := permit.Reachable(p)
		ends := map[string]int{}
		for _, x := range p.Permits {
			ends[x.Name] = x.To
		}
		states := map[string]int{}
		for range 60 {
			x := randomEvent(r, p, o)
			if _, e := o.Do(x); e == api.OK && x.Op == api.EventExtend {
				ends[x.Name] = x.To
			}
			isSound(t, o, p, ends, reachable)
			most = max(most, len(o.Open()))
			for _, y := range p.Permits {
				state, _ := o.State(y.Name)
				old := states[y.Name]
				if old >= api.Closed && state != old {
					t.Errorf("%s became %d of %d", y.Name, state, old)
				}
				opens := (x.Op == api.EventOpen || x.Op == api.EventResume) && x.Name == y.Name
				if state == api.Open && old != api.Open && !opens {
					t.Errorf("%s became open by %+v", y.Name, x)
				}
				states[y.Name] = state
			}
		}
		if t.Failed() {
			t.FailNow()
		}
	}
	if most < 4 {
		t.Error(most)
	}
}

// Replaying what was accepted gives the same answers, at the same time.
func TestReplayOfWhatWasAccepted(t *testing.T) {
	r := rand.New(rand.NewSource(79))
	for range 400 {
		p := randomPlan(r)
		o := office(t, p)
		var tried []api.Event
		for range 50 {
			x := randomEvent(r, p, o)
			o.Do(x)
			tried = append(tried, x)
		}
		again, n, e := permit.Replay(p, o.Events())
		want(t, "the replay", []any{n, e, again.Events()}, []any{len(o.Events()), api.OK, o.Events()})
		done(t, again, fmt.Sprint(o.Now(), " tick"))
		want(t, fmt.Sprintf("%+v", p), answers(again, p), answers(o, p))

		// up to the first event that is refused
		first := office(t, p)
		wanted := 0
		for wanted < len(tried) && first.Now() <= tried[wanted].At {
			ahead, _, _ := permit.Replay(p, tried[:wanted])
			if _, e := ahead.Do(tried[wanted]); e != api.OK {
				break
			}
			first.Do(tried[wanted])
			wanted++
		}
		got, n, _ := permit.Replay(p, tried)
		want(t, "the number of events", n, wanted)
		want(t, "the time", got.Now(), first.Now())
		want(t, "the answers", answers(got, p), answers(first, p))
	}
}
