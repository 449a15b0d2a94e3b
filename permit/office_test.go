package permit_test

import (
	"fmt"
	"strings"
	"testing"

	"keelblock/api"
	"keelblock/permit"
)

// P7.4

func TestTheExample(t *testing.T) {
	o := office(t, plan())
	want(t, "the first time", o.Now(), 0)
	wantStates(t, o, plan(), api.Requested, api.Requested, api.Requested, api.Requested)
	done(t, o, "0 approve weld ann")
	wantDo(t, o, "0 open weld ann", api.ErrSigned)
	wantDo(t, o, "0 open weld bob", api.ErrUnsafe, "tank")
	done(t, o, "5 gas tank 209 8", "5 open weld bob")
	wantDo(t, o, "10 enter cy tank", api.ErrUnsafe)
	wantStates(t, o, plan(), api.Open, api.Requested, api.Requested, api.Requested)
	done(t, o, "10 gas tank 209 30")
	wantStates(t, o, plan(), api.Suspended, api.Requested, api.Requested, api.Requested)
	wantDo(t, o, "20 resume weld bob", api.ErrUnsafe, "tank")
}

func TestErrorsOfAllEvents(t *testing.T) {
	o := office(t, plan())
	done(t, o, "100 tick")
	for op := -2; op < 14; op++ {
		known := op >= 0 && op < 12
		for at, e := range map[int]api.Errno{-1: api.ErrRange, 1000001: api.ErrRange, 0: api.ErrOrder, 99: api.ErrOrder} {
			if !known {
				e = api.ErrRange
			}
			wantTry(t, o, api.Event{At: at, Op: op}, e)
		}
		if !known {
			wantTry(t, o, api.Event{At: 100, Op: op, Name: "weld", Space: "deck", Person: "ann", To: 900}, api.ErrRange)
		}
	}
	want(t, "the time", o.Now(), 100)
	done(t, o, "100 tick", "1000000 tick")
	want(t, "the last time", o.Now(), 1000000)
	wantTry(t, o, api.Event{At: 1000001}, api.ErrRange)
	wantDo(t, o, "999999 tick", api.ErrOrder)
	done(t, o, "1000000 tick")
}

// simple is a plan in which nothing stands in the way of opening x, y and z, and z is an isolation.
func simple() api.PermitPlan {
	return row(nil, asked("x", api.Diving, "c"), asked("y", api.Radiography, "c"), asked("z", api.Isolation, "c"))
}

// inState returns an office of the simple plan in which the permit x has a state; ann approved it.
func inState(t *testing.T, state int) *permit.Office {
	t.Helper()
	o := office(t, simple())
	done(t, o, map[int][]string{
		api.Requested: {},
		api.Approved:  {"0 approve x ann"},
		api.Open:      {"0 approve x ann", "0 open x bob"},
		api.Suspended: {"0 approve x ann", "0 open x bob", "0 suspend x"},
		api.Closed:    {"0 approve x ann", "0 open x bob", "0 close x"},
		api.Cancelled: {"0 cancel x"},
		api.Expired:   {"600 tick"},
	}[state]...)
	wantStates(t, o, simple(), state, others(state), others(state))
	return o
}

// others is the state of the other permits when that of x was reached.
func others(state int) int {
	if state == api.Expired {
		return api.Expired
	}
	return api.Requested
}

func TestStatesOfEvents(t *testing.T) {
	for _, x := range []struct {
		text string // behind the time
		from map[int]int
	}{
		{"approve x ann", map[int]int{api.Requested: api.Approved}},
		{"open x cy", map[int]int{api.Approved: api.Open}},
		{"suspend x", map[int]int{api.Open: api.Suspended}},
		{"resume x cy", map[int]int{api.Suspended: api.Open}},
		{"close x", map[int]int{api.Open: api.Closed, api.Suspended: api.Closed}},
		{"cancel x", map[int]int{api.Requested: api.Cancelled, api.Approved: api.Cancelled}},
		{"extend x ann 700", map[int]int{api.Approved: api.Approved, api.Open: api.Open, api.Suspended: api.Suspended}},
	} {
		for state := range 7 {
			o := inState(t, state)
			y := event(t, fmt.Sprint(o.Now(), " ", x.text))
			after, possible := x.from[state]
			if !possible {
				wantTry(t, o, changedEvent(y, func(y *api.Event) { y.Person, y.To = "", -1 }), api.ErrState)
				after = state
			}
			wantTry(t, o, changedEvent(y, func(y *api.Event) { y.Name = "X" }), api.ErrMissing)
			wantTry(t, o, changedEvent(y, func(y *api.Event) { y.Name, y.Person, y.To = "", "", -1 }), api.ErrMissing)
			if possible {
				wantTry(t, o, y, api.OK)
			}
			wantStates(t, o, simple(), after, others(state), others(state))
		}
	}
}

func changedEvent(x api.Event, do func(x *api.Event)) api.Event {
	do(&x)
	return x
}

func TestPeopleWhoSign(t *testing.T) {
	for text, state := range map[string]int{"0 approve x p": api.Requested, "0 open x p": api.Approved, "0 resume x p": api.Suspended, "0 extend x p 601": api.Open} {
		for _, name := range []string{"", "1", "-", "a b", "abcdefghijklm"} {
			x := changedEvent(event(t, text), func(x *api.Event) {
				x.Person = name
				if x.Op == api.EventExtend {
					x.To = 0 // which would be the next error
				}
			})
			wantTry(t, inState(t, state), x, api.ErrName)
		}
		done(t, inState(t, state), text)
	}
	wantDo(t, inState(t, api.Approved), "0 open x ann", api.ErrSigned)
	wantDo(t, inState(t, api.Suspended), "0 resume x ann", api.ErrSigned)
	done(t, inState(t, api.Suspended), "0 resume x bob")
	done(t, inState(t, api.Approved), "0 extend x ann 601", "0 open x Ann")
	// who signed an extension may open
	done(t, inState(t, api.Approved), "0 extend x cy 601", "0 open x cy")
	// a signature comes before the reasons
	o := office(t, plan())
	done(t, o, "0 approve go ann", "0 approve weld bob")
	wantDo(t, o, "0 open go ann", api.ErrSigned)
	wantDo(t, o, "0 open go bob", api.ErrState, "pump")
	wantDo(t, o, "0 open weld bob", api.ErrSigned)
}

func TestReasonsInTheWay(t *testing.T) {
	p := row([]api.Exclusion{{A: api.Radiography, B: api.Diving, Reach: 2}, {A: api.HotWork, B: api.Diving, Reach: 2}},
		api.Permit{Name: "ray", Kind: api.Radiography, Space: "c", From: 10, To: 600, Locks: []string{"m", "l", "m"}},
		api.Permit{Name: "hot", Kind: api.HotWork, Space: "b", From: 10, To: 600, Locks: []string{"l"}},
		asked("l", api.Isolation, "a"), asked("m", api.Isolation, "a"),
		asked("dive", api.Diving, "d"), asked("dive2", api.Diving, "a"), asked("in", api.Entry, "b"))
	o := office(t, p)
	opened(t, o, 0, "dive2", "dive")
	done(t, o, "0 gas b 209 0", "0 approve in ann", "0 open in bob", "0 enter cy b", "0 enter bob b", "0 enter ann c", "0 enter dan c")
	done(t, o, "0 gas b 209 50", "0 gas d 209 0", "0 approve ray ann", "0 approve hot ann")
	steps := []struct {
		e     api.Errno
		names []string
		help  []string // makes an end of this reason
	}{
		{api.ErrRange, nil, []string{"10 tick"}},
		{api.ErrState, []string{"m", "l", "m"}, []string{"10 approve m ann", "10 open m bob", "10 approve l ann", "10 open l bob"}},
		{api.ErrInterlock, []string{"dive", "dive2"}, []string{"10 close dive", "10 suspend dive2"}},
		{api.ErrClash, []string{"ann", "bob", "cy", "dan"}, []string{"10 leave ann", "10 leave bob", "10 leave cy", "10 leave dan"}},
	}
	for i, x := range steps {
		wantDo(t, o, fmt.Sprint(o.Now(), " open ray bob"), x.e, x.names...)
		var all []api.Reason
		for _, y := range steps[i:] {
			all = append(all, api.Reason{Err: y.e, Names: y.names})
		}
		l, e := o.Why("ray")
		want(t, "why ray", []any{l, e}, []any{all, api.OK})
		done(t, o, x.help...)
	}
	l, e := o.Why("ray")
	want(t, "why not ray", []any{l, e}, []any{[]api.Reason(nil), api.OK})
	done(t, o, "10 open ray bob")

	l, e = o.Why("hot")
	want(t, "why hot", []any{l, e}, []any{[]api.Reason{{Err: api.ErrUnsafe, Names: []string{"b", "a"}}}, api.OK})
	wantDo(t, o, "10 open hot bob", api.ErrUnsafe, "b", "a")
	done(t, o, "10 gas b 209 10")
	wantDo(t, o, "10 open hot bob", api.ErrUnsafe, "a")
	done(t, o, "10 gas a 209 10", "10 open hot bob")
	wantDo(t, o, "11 resume dive2 bob", api.ErrInterlock, "ray", "hot")
}

func TestTheFirstMinuteOfAPermit(t *testing.T) {
	p := changed(simple(), func(p *api.PermitPlan) { p.Permits[0].From, p.Permits[0].To = 10, 12 })
	o := office(t, p)
	done(t, o, "9 approve x ann")
	wantDo(t, o, "9 open x bob", api.ErrRange)
	done(t, o, "10 open x bob", "11 suspend x", "11 resume x bob")
	wantStates(t, o, p, api.Open, api.Requested, api.Requested)
	wantDo(t, o, "12 suspend x", api.ErrState)
	wantStates(t, o, p, api.Expired, api.Requested, api.Requested)
}

func TestExpiry(t *testing.T) {
	for state := range 6 {
		o := inState(t, state)
		done(t, o, "599 tick")
		wantStates(t, o, simple(), state, api.Requested, api.Requested)
		done(t, o, "600 tick")
		after := api.Expired
		if state == api.Closed || state == api.Cancelled {
			after = state
		}
		wantStates(t, o, simple(), after, api.Expired, api.Expired)
		wantDo(t, o, "600 cancel x", api.ErrState)
	}
}

// A lock that expires, is suspended or closed, and air that is not good any more, suspend a permit.
func TestSettling(t *testing.T) {
	p := row(nil, asked("in", api.Entry, "a", "l"), asked("hot", api.HotWork, "c"), asked("paint", api.Spraying, "d", "l", "m"),
		asked("l", api.Isolation, "c"), api.Permit{Name: "m", Kind: api.Isolation, Space: "c", To: 30}, asked("ray", api.Radiography, "a", "m"))
	states := func(in, hot, paint, l, m, ray int) []int { return []int{in, hot, paint, l, m, ray} }
	const open, shut = api.Open, api.Suspended
	for _, x := range []struct {
		text   string
		wanted []int
	}{
		{"0 tick", states(open, open, open, open, open, open)},
		{"29 tick", states(open, open, open, open, open, open)},
		{"30 tick", states(open, open, shut, open, api.Expired, shut)},
		{"1 suspend m", states(open, open, shut, open, shut, shut)},
		{"1 suspend l", states(shut, open, shut, shut, open, open)},
		{"1 gas a 209 50", states(open, open, open, open, open, open)},
		{"1 gas a 209 51", states(shut, open, open, open, open, open)},
		{"1 gas a 194 0", states(shut, open, open, open, open, open)},
		{"1 gas a 236 0", states(shut, open, open, open, open, open)},
		{"1 gas a 195 0", states(open, open, open, open, open, open)},
		{"1 gas a 235 0", states(open, open, open, open, open, open)},
		{"1 gas c 0 1000", states(open, open, open, open, open, open)},
		{"1 gas b 209 11", states(open, shut, open, open, open, open)},
		{"1 gas d 209 11", states(open, shut, open, open, open, open)},
		{"1 gas d 209 10", states(open, open, open, open, open, open)},
		{"1 gas d 100 0", states(open, shut, shut, open, open, open)},
	} {
		o := office(t, p)
		done(t, o, "0 gas a 209 0", "0 gas b 209 0", "0 gas d 209 0")
		opened(t, o, 0, "l", "m", "in", "hot", "paint", "ray")
		done(t, o, x.text)
		wantStates(t, o, p, x.wanted...)
	}
}

// A gas test is good for 60 minutes.
func TestOldAir(t *testing.T) {
	o := office(t, plan())
	done(t, o, "5 gas tank 209 0")
	opened(t, o, 5, "weld", "pump", "go")
	done(t, o, "65 tick")
	wantStates(t, o, plan(), api.Open, api.Open, api.Requested, api.Open)
	wantDo(t, o, "66 enter cy tank", api.ErrUnsafe)
	wantStates(t, o, plan(), api.Suspended, api.Suspended, api.Requested, api.Open)
	wantDo(t, o, "66 resume go bob", api.ErrUnsafe, "tank")
	// nothing becomes open by itself
	done(t, o, "66 gas tank 209 0")
	wantStates(t, o, plan(), api.Suspended, api.Suspended, api.Requested, api.Open)
	// a worse test replaces a better one
	done(t, o, "66 resume go bob", "66 gas tank 100 0")
	wantStates(t, o, plan(), api.Suspended, api.Suspended, api.Requested, api.Open)
	wantDo(t, o, "66 resume go bob", api.ErrUnsafe, "tank")
}

func TestClosingAnIsolation(t *testing.T) {
	p := row(nil, asked("x", api.Diving, "c", "m", "l"), asked("l", api.Isolation, "a"), asked("m", api.Isolation, "a"), asked("y", api.Diving, "c", "l", "l"), asked("z", api.Diving, "c", "m"))
	o := office(t, p)
	opened(t, o, 0, "l", "m", "y", "x")
	wantDo(t, o, "1 close l", api.ErrInterlock, "x", "y")
	wantDo(t, o, "1 close m", api.ErrInterlock, "x")
	done(t, o, "1 suspend x")
	wantDo(t, o, "1 close l", api.ErrInterlock, "y")
	done(t, o, "1 close m", "1 close y", "1 close l", "1 close x")
	wantStates(t, o, p, api.Closed, api.Closed, api.Closed, api.Closed, api.Requested)

	// an isolation that is suspended is not needed: what needs it is suspended, too
	o = office(t, p)
	opened(t, o, 0, "l", "m", "x")
	done(t, o, "1 suspend l", "1 close l")
	wantStates(t, o, p, api.Suspended, api.Closed, api.Open, api.Requested, api.Requested)
}

func TestClosingAnEntry(t *testing.T) {
	p := row(nil, asked("in", api.Entry, "a"), asked("in2", api.Entry, "a"), asked("deck", api.Entry, "c"), asked("other", api.Entry, "b"), asked("paint", api.Spraying, "a"))
	o := office(t, p)
	done(t, o, "0 gas a 209 0", "0 gas b 209 0")
	opened(t, o, 0, "in", "deck", "other", "paint")
	done(t, o, "1 enter cy a", "1 enter bob a", "1 enter ann c", "1 enter dan b")
	wantDo(t, o, "1 close in", api.ErrUnsafe, "bob", "cy")
	// the space is not enclosed
	done(t, o, "1 close deck")
	// another one is open
	opened(t, o, 1, "in2")
	done(t, o, "1 close in")
	wantDo(t, o, "1 close in2", api.ErrUnsafe, "bob", "cy")
	done(t, o, "1 close paint", "1 leave cy", "1 leave bob", "1 close in2")
	// it is suspended
	done(t, o, "1 suspend other", "1 close other")
	want(t, "inside", o.Inside("b"), []string{"dan"})
	wantStates(t, o, p, api.Closed, api.Closed, api.Closed, api.Closed, api.Closed)
}

func TestGasTests(t *testing.T) {
	o := office(t, plan())
	test := func(space string, oxygen, gas int) api.Event {
		return api.Event{Op: api.EventGas, Space: space, Oxygen: oxygen, Gas: gas}
	}
	for _, x := range []api.Event{test("", 209, 0), test("weld", 209, 0), test("?", -1, 1001)} {
		wantTry(t, o, x, api.ErrMissing)
	}
	wantBounds(t, "Oxygen", 0, 1000, api.ErrRange, func(n int) api.Errno {
		_, e := o.Do(test("deck", n, 500))
		return e
	})
	wantBounds(t, "Gas", 0, 1000, api.ErrRange, func(n int) api.Errno {
		_, e := o.Do(test("tank", 500, n))
		return e
	})
	// a test that is refused replaces none
	done(t, o, "0 gas tank 209 0")
	wantTry(t, o, test("tank", 209, 1001), api.ErrRange)
	entry, hot, e := o.Safe("tank")
	want(t, "the air", []any{entry, hot, e}, []any{true, true, api.OK})
}

func TestEntering(t *testing.T) {
	p := row(nil, asked("in", api.Entry, "a"), asked("ray", api.Radiography, "c"), asked("paint", api.Spraying, "b"), asked("ray2", api.Radiography, "d"), asked("ray3", api.Radiography, "d"))
	o := office(t, p)
	enter := func(person, space string) api.Event {
		return api.Event{Op: api.EventEnter, Person: person, Space: space}
	}
	done(t, o, "0 gas a 209 0", "0 gas b 209 0", "0 enter ann c")
	for _, x := range []struct {
		person, space string
		e             api.Errno
	}{
		{"", "", api.ErrName}, {"1", "c", api.ErrName}, {"abcdefghijklm", "b", api.ErrName},
		{"cy", "", api.ErrMissing}, {"ann", "in", api.ErrMissing}, {"cy", "e", api.ErrMissing},
		{"ann", "c", api.ErrState}, {"ann", "b", api.ErrState}, {"ann", "d", api.ErrState},
		{"cy", "a", api.ErrUnsafe}, {"cy", "b", api.ErrUnsafe}, {"Ann", "a", api.ErrUnsafe},
	} {
		wantTry(t, o, enter(x.person, x.space), x.e)
	}
	// an open permit of another kind, or for another space, is no entry permit
	opened(t, o, 0, "in", "paint")
	wantDo(t, o, "0 enter cy b", api.ErrUnsafe)
	done(t, o, "0 enter cy a", "0 leave ann")
	wantDo(t, o, "0 enter cy c", api.ErrState)
	opened(t, o, 0, "ray3", "ray2", "ray")
	wantDo(t, o, "0 enter ann c", api.ErrClash, "ray", "ray2", "ray3")
	done(t, o, "0 enter bob a", "0 suspend ray2")
	wantDo(t, o, "0 enter ann c", api.ErrClash, "ray", "ray3")
	wantDo(t, o, "0 enter ann b", api.ErrUnsafe)
	done(t, o, "0 suspend ray", "0 suspend ray3", "0 enter ann c", "0 suspend in")
	wantDo(t, o, "0 enter dan a", api.ErrUnsafe)
	want(t, "inside", []any{o.Inside("a"), o.Inside("b"), o.Inside("c")}, []any{[]string{"bob", "cy"}, []string(nil), []string{"ann"}})
}

func TestRadiationReachesNeighbours(t *testing.T) {
	p := row(nil, asked("ray", api.Radiography, "a"), asked("in", api.Entry, "b"))
	o := office(t, p)
	done(t, o, "0 gas b 209 0")
	opened(t, o, 0, "ray", "in")
	wantDo(t, o, "0 enter cy b", api.ErrClash, "ray")
	done(t, o, "0 enter cy c")
}

func TestLeaving(t *testing.T) {
	o := office(t, plan())
	leave := func(person string) api.Event { return api.Event{Op: api.EventLeave, Person: person, Space: "deck"} }
	done(t, o, "0 enter ann deck")
	wantTry(t, o, leave(""), api.ErrName)
	wantTry(t, o, leave("a b"), api.ErrName)
	wantTry(t, o, leave("bob"), api.ErrMissing)
	wantTry(t, o, leave("ann"), api.OK)
	wantTry(t, o, leave("ann"), api.ErrMissing)
	want(t, "inside", o.Inside("deck"), []string(nil))
	done(t, o, "1 enter ann deck")
}

func TestAlarm(t *testing.T) {
	p := row(nil, asked("a", api.Diving, "a"), asked("b", api.Radiography, "b"), asked("l", api.Isolation, "b"), asked("c", api.HotWork, "c"), asked("d", api.Spraying, "d"), asked("e", api.Diving, "a"))
	open := func() *permit.Office {
		o := office(t, p)
		done(t, o, "0 gas a 209 0", "0 gas b 209 0", "0 gas d 209 0")
		opened(t, o, 0, "a", "b", "l", "c", "d")
		return o
	}
	for space, names := range map[string]string{"a": "l c d", "b": "l d", "c": "a l", "d": "a b l"} {
		o := open()
		done(t, o, "1 alarm "+space)
		want(t, "open behind an alarm in "+space, o.Open(), strings.Split(names, " "))
	}
	o := open()
	done(t, o, "1 close a", "1 alarm a")
	wantStates(t, o, p, api.Closed, api.Suspended, api.Open, api.Open, api.Open, api.Requested)
	for _, space := range []string{"", "l", "e"} {
		wantTry(t, o, api.Event{At: 1, Op: api.EventAlarm, Space: space}, api.ErrMissing)
	}
}

func TestExtension(t *testing.T) {
	for _, state := range []int{api.Approved, api.Open, api.Suspended} {
		o := inState(t, state)
		extend := func(to int) api.Event {
			return api.Event{At: o.Now(), Op: api.EventExtend, Name: "x", Person: "ann", To: to}
		}
		wantTry(t, o, extend(600), api.ErrRange)
		wantTry(t, o, extend(0), api.ErrRange)
		wantTry(t, o, extend(-1), api.ErrRange)
		wantTry(t, o, extend(1000001), api.ErrRange)
		wantTry(t, o, extend(601), api.OK)
		wantTry(t, o, extend(601), api.ErrRange)
		done(t, o, "600 tick")
		wantStates(t, o, simple(), state, api.Expired, api.Expired)
		wantTry(t, o, extend(602), api.OK)
		done(t, o, "601 tick")
		wantTry(t, o, extend(1000000), api.OK)
		done(t, o, "999999 tick")
		wantStates(t, o, simple(), state, api.Expired, api.Expired)
		done(t, o, "1000000 tick")
		wantStates(t, o, simple(), api.Expired, api.Expired, api.Expired)
	}
	// an extension is too late at the end
	o := inState(t, api.Open)
	wantDo(t, o, "600 extend x ann 700", api.ErrState)
}

// An event that is refused lets time pass, and changes nothing more.
func TestRefusedEvents(t *testing.T) {
	o := office(t, plan())
	done(t, o, "0 gas tank 209 0")
	opened(t, o, 0, "pump", "weld")
	wantDo(t, o, "61 approve weld ann", api.ErrState)
	want(t, "the time", o.Now(), 61)
	wantStates(t, o, plan(), api.Suspended, api.Requested, api.Requested, api.Open)
	wantTry(t, o, api.Event{At: 600, Op: api.EventGas, Space: "sea"}, api.ErrMissing)
	want(t, "the time", o.Now(), 600)
	wantStates(t, o, plan(), api.Expired, api.Expired, api.Expired, api.Expired)
	// but for these errors
	wantTry(t, o, api.Event{At: 700, Op: 12}, api.ErrRange)
	wantTry(t, o, api.Event{At: 599, Op: 0}, api.ErrOrder)
	want(t, "the time", o.Now(), 600)
	want(t, "the events", len(o.Events()), 5)
}

// Fields that are not named are not looked at.
func TestOtherFields(t *testing.T) {
	o := office(t, plan())
	for _, x := range []api.Event{
		{Op: api.EventTick, Name: "?", Space: "?", Person: "?", Oxygen: -1, Gas: -1, To: -1},
		{Op: api.EventGas, Name: "?", Space: "tank", Person: "?", Oxygen: 209, To: -1},
		{Op: api.EventApprove, Name: "weld", Space: "?", Person: "ann", Oxygen: -1, Gas: -1, To: -1},
		{Op: api.EventOpen, Name: "weld", Space: "?", Person: "bob", Oxygen: -1, Gas: -1, To: -1},
		{Op: api.EventSuspend, Name: "weld", Space: "?", Person: "?", Oxygen: -1, Gas: -1, To: -1},
		{Op: api.EventResume, Name: "weld", Space: "?", Person: "bob", Oxygen: -1, Gas: -1, To: -1},
		{Op: api.EventExtend, Name: "weld", Space: "?", Person: "bob", Oxygen: -1, Gas: -1, To: 601},
		{Op: api.EventClose, Name: "weld", Space: "?", Person: "?", Oxygen: -1, Gas: -1, To: -1},
		{Op: api.EventCancel, Name: "paint", Space: "?", Person: "?", Oxygen: -1, Gas: -1, To: -1},
		{Op: api.EventEnter, Name: "?", Space: "deck", Person: "ann", Oxygen: -1, Gas: -1, To: -1},
		{Op: api.EventLeave, Name: "?", Space: "?", Person: "ann", Oxygen: -1, Gas: -1, To: -1},
		{Op: api.EventAlarm, Name: "?", Space: "deck", Person: "?", Oxygen: -1, Gas: -1, To: -1},
	} {
		wantTry(t, o, x, api.OK)
	}
}
