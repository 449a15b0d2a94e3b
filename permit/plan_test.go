package permit_test

import (
	"fmt"
	"strings"
	"testing"

	"keelblock/api"
	"keelblock/permit"
)

// P7.1

func TestStandard(t *testing.T) {
	var numbers [][3]int
	for _, x := range permit.Standard() {
		numbers = append(numbers, [3]int{x.A, x.B, x.Reach})
	}
	want(t, "Standard", numbers, [][3]int{{0, 2, 1}, {3, 0, 1}, {3, 1, 1}, {3, 2, 1}, {3, 3, 1}, {4, 4, 0}})
	wantOwn(t, "Standard", permit.Standard)
}

// full is a plan with as much as there may be of everything.
func full() api.PermitPlan {
	var p api.PermitPlan
	p.GasMinutes = 10000
	for i := range 30 {
		s := api.Space{Name: fmt.Sprint("S", i), Enclosed: i%2 == 0}
		for k := range 30 {
			s.Next = append(s.Next, fmt.Sprint("S", (i+1+k%29)%30))
		}
		p.Spaces = append(p.Spaces, s)
		p.Exclusions = append(p.Exclusions, api.Exclusion{A: i % 6, B: i / 5 % 6, Reach: i % 3})
	}
	for i := range 20 {
		x := api.Permit{Name: fmt.Sprint("P", i), Kind: api.Isolation, Space: fmt.Sprint("S", i), From: i, To: 1000000}
		if i > 9 {
			x.Kind = i % 5
			for k := range 10 {
				x.Locks = append(x.Locks, fmt.Sprint("P", k))
			}
		}
		p.Permits = append(p.Permits, x)
	}
	return p
}

func TestCheckPlan(t *testing.T) {
	want(t, "the example", permit.CheckPlan(plan()), api.OK)
	want(t, "the fullest plan", permit.CheckPlan(full()), api.OK)
	want(t, "an empty plan", permit.CheckPlan(api.PermitPlan{GasMinutes: 1}), api.OK)
	want(t, "a neighbour and a lock twice", permit.CheckPlan(changed(plan(), func(p *api.PermitPlan) {
		p.Spaces[0].Next = []string{"tank", "hold", "tank"}
		p.Permits[1].Locks = []string{"pump", "pump"}
	})), api.OK)
	want(t, "a space and a permit of one name", permit.CheckPlan(changed(plan(), func(p *api.PermitPlan) {
		p.Permits[0].Name = "deck"
	})), api.OK)
}

func TestNumbersOfPlans(t *testing.T) {
	for _, x := range []struct {
		what        string
		least, most int
		set         func(p *api.PermitPlan, n int)
	}{
		{"GasMinutes", 1, 10000, func(p *api.PermitPlan, n int) { p.GasMinutes = n }},
		{"A", 0, 5, func(p *api.PermitPlan, n int) { p.Exclusions[5].A = n }},
		{"B", 0, 5, func(p *api.PermitPlan, n int) { p.Exclusions[0].B = n }},
		{"Reach", 0, 2, func(p *api.PermitPlan, n int) { p.Exclusions[1].Reach = n }},
		{"Kind", 0, 5, func(p *api.PermitPlan, n int) { p.Permits[0].Kind = n }},
		{"From", 0, 599, func(p *api.PermitPlan, n int) { p.Permits[2].From = n }},
		{"To from 0", 1, 1000000, func(p *api.PermitPlan, n int) { p.Permits[2].To = n }},
		{"To from 500", 501, 1000000, func(p *api.PermitPlan, n int) { p.Permits[3].From, p.Permits[3].To = 500, n }},
		{"From to 1000000", 0, 999999, func(p *api.PermitPlan, n int) { p.Permits[3].From, p.Permits[3].To = n, 1000000 }},
	} {
		wantBounds(t, x.what, x.least, x.most, api.ErrRange, func(n int) api.Errno {
			return permit.CheckPlan(changed(plan(), func(p *api.PermitPlan) { x.set(p, n) }))
		})
	}
}

func TestNamesOfPlans(t *testing.T) {
	for _, x := range []struct {
		name   string
		wanted api.Errno
	}{
		{"a", api.OK}, {"Z", api.OK}, {"z9-", api.OK}, {"A-----------", api.OK}, {"abcdefghijkl", api.OK}, {"mnopqrstuvwx", api.OK},
		{"yzABCDEFGHIJ", api.OK}, {"KLMNOPQRSTUV", api.OK}, {"WXYZ01234567", api.OK}, {"x89", api.OK},
		{"", api.ErrName}, {"1a", api.ErrName}, {"-a", api.ErrName}, {"abcdefghijklm", api.ErrName}, {"a b", api.ErrName}, {" a", api.ErrName},
		{"a ", api.ErrName}, {"a_b", api.ErrName}, {"a.", api.ErrName}, {"a/", api.ErrName}, {"a:", api.ErrName}, {"@a", api.ErrName}, {"[a", api.ErrName},
		{"`a", api.ErrName}, {"{a", api.ErrName}, {"a,b", api.ErrName}, {"aé", api.ErrName}, {"éa", api.ErrName}, {"a\xff", api.ErrName}, {"\xff", api.ErrName},
		{"a\x00", api.ErrName}, {"a\n", api.ErrName}, {"", api.ErrName}, {strings.Repeat("a", 100000), api.ErrName},
	} {
		space := changed(plan(), func(p *api.PermitPlan) { p.Spaces = append(p.Spaces, api.Space{Name: x.name}) })
		want(t, fmt.Sprintf("the space %q", x.name), permit.CheckPlan(space), x.wanted)
		asks := changed(plan(), func(p *api.PermitPlan) { p.Permits[0].Name = x.name })
		want(t, fmt.Sprintf("the permit %q", x.name), permit.CheckPlan(asks), x.wanted)
	}
}

// A fault is a change after which a plan has an error.
type fault struct {
	what string
	e    api.Errno
	do   func(p *api.PermitPlan)
}

// faults are in the order in which the errors of a plan are looked for.
func faults() []fault {
	return []fault{
		{"31 spaces", api.ErrLarge, func(p *api.PermitPlan) {
			for i := range 28 {
				p.Spaces = append(p.Spaces, api.Space{Name: fmt.Sprint("S", i)})
			}
		}},
		{"31 exclusions", api.ErrLarge, func(p *api.PermitPlan) { p.Exclusions = append(p.Exclusions, make([]api.Exclusion, 25)...) }},
		{"21 permits", api.ErrLarge, func(p *api.PermitPlan) {
			for i := range 17 {
				p.Permits = append(p.Permits, asked(fmt.Sprint("P", i), api.HotWork, "deck"))
			}
		}},
		{"no gas minutes", api.ErrRange, func(p *api.PermitPlan) { p.GasMinutes = 0 }},
		{"31 neighbours of the first space", api.ErrLarge, func(p *api.PermitPlan) { p.Spaces[0].Next = make([]string, 31) }},
		{"the name of the second space", api.ErrName, func(p *api.PermitPlan) { p.Spaces[1].Name = "" }},
		{"a space twice", api.ErrExists, func(p *api.PermitPlan) { p.Spaces[2].Name = "deck" }},
		{"a neighbour that is missing", api.ErrMissing, func(p *api.PermitPlan) { p.Spaces[0].Next = []string{"tank", "pump"} }},
		{"a neighbour of itself", api.ErrForm, func(p *api.PermitPlan) { p.Spaces[2].Next = []string{"hold", "x"} }},
		{"an exclusion", api.ErrRange, func(p *api.PermitPlan) { p.Exclusions[5].Reach = 3 }},
		{"11 locks of the first permit", api.ErrLarge, func(p *api.PermitPlan) { p.Permits[0].Locks = make([]string, 11) }},
		{"the name of the second permit", api.ErrName, func(p *api.PermitPlan) { p.Permits[1].Name = "1" }},
		{"a permit twice", api.ErrExists, func(p *api.PermitPlan) { p.Permits[2].Name = "weld" }},
		{"the kind of a permit", api.ErrRange, func(p *api.PermitPlan) { p.Permits[3].Kind = 6 }},
		{"a lock that is missing", api.ErrMissing, func(p *api.PermitPlan) { p.Permits[0].Locks = []string{"pump", "tank"} }},
		{"a lock that is no isolation", api.ErrForm, func(p *api.PermitPlan) { p.Permits[2].Locks = []string{"weld", "x"} }},
	}
}

func TestErrorsOfPlans(t *testing.T) {
	all := faults()
	for i, x := range all {
		p := plan()
		x.do(&p)
		want(t, x.what, permit.CheckPlan(p), x.e)
		for _, y := range all[i+1:] {
			p := plan()
			y.do(&p)
			x.do(&p)
			want(t, x.what+" before "+y.what, permit.CheckPlan(p), x.e)
		}
	}
}

// Of one space or permit, too, the errors are looked for in the order of the chapter.
func TestErrorsOfOneThing(t *testing.T) {
	for _, x := range []fault{
		{"30 neighbours", api.OK, func(p *api.PermitPlan) {
			p.Spaces[0].Next = strings.Split(strings.Repeat("tank ", 29)+"hold", " ")
		}},
		{"a long list of neighbours before they are missing", api.ErrLarge, func(p *api.PermitPlan) { p.Spaces[2].Next = make([]string, 31) }},
		{"the name of a space before its neighbours", api.ErrName, func(p *api.PermitPlan) { p.Spaces[2] = api.Space{Name: "-", Next: make([]string, 31)} }},
		{"a space twice before its neighbours", api.ErrExists, func(p *api.PermitPlan) { p.Spaces[2] = api.Space{Name: "tank", Next: make([]string, 31)} }},
		{"a name of a space twice that is none", api.ErrName, func(p *api.PermitPlan) { p.Spaces[0].Name, p.Spaces[1].Name = "1", "1" }},
		{"a neighbour that comes later", api.OK, func(p *api.PermitPlan) { p.Spaces[0].Next = []string{"hold"} }},
		{"itself before a neighbour that is missing", api.ErrForm, func(p *api.PermitPlan) { p.Spaces[0].Next = []string{"deck", "x"} }},
		{"a neighbour with an empty name", api.ErrMissing, func(p *api.PermitPlan) { p.Spaces[0].Next = []string{""} }},
		{"the name of a permit before its kind", api.ErrName, func(p *api.PermitPlan) { p.Permits[2] = asked("?", 6, "") }},
		{"a permit twice before its kind", api.ErrExists, func(p *api.PermitPlan) { p.Permits[2] = asked("go", 6, "") }},
		{"the kind of a permit before its space", api.ErrRange, func(p *api.PermitPlan) { p.Permits[2] = asked("paint", -1, "sea") }},
		{"the times of a permit before its space", api.ErrRange, func(p *api.PermitPlan) {
			p.Permits[2] = api.Permit{Name: "paint", Space: "sea", From: 5, To: 5}
		}},
		{"the space of a permit", api.ErrMissing, func(p *api.PermitPlan) { p.Permits[2].Space = "weld" }},
		{"no space of a permit", api.ErrMissing, func(p *api.PermitPlan) { p.Permits[2].Space = "" }},
		{"the space of a permit before its locks", api.ErrMissing, func(p *api.PermitPlan) { p.Permits[2] = asked("paint", 2, "sea", make([]string, 11)...) }},
		{"10 locks", api.OK, func(p *api.PermitPlan) { p.Permits[2].Locks = strings.Split(strings.Repeat("pump ", 9)+"pump", " ") }},
		{"11 locks", api.ErrLarge, func(p *api.PermitPlan) { p.Permits[2].Locks = strings.Split(strings.Repeat("pump ", 10)+"pump", " ") }},
		{"a lock of an isolation", api.ErrForm, func(p *api.PermitPlan) {
			p.Permits[2].Kind, p.Permits[2].Locks = api.Isolation, []string{"pump"}
		}},
		{"an isolation as a lock of itself", api.ErrForm, func(p *api.PermitPlan) { p.Permits[3].Locks = []string{"pump"} }},
		{"a permit as a lock of itself", api.ErrForm, func(p *api.PermitPlan) { p.Permits[0].Locks = []string{"weld"} }},
		{"a lock of an isolation that is missing", api.ErrMissing, func(p *api.PermitPlan) { p.Permits[3].Locks = []string{"?"} }},
		{"a lock of the wrong kind before one that is missing", api.ErrForm, func(p *api.PermitPlan) { p.Permits[1].Locks = []string{"paint", "?"} }},
	} {
		p := plan()
		x.do(&p)
		want(t, x.what, permit.CheckPlan(p), x.e)
	}
}

// The error of a plan comes before all others, in every function.
func TestErrorsOfPlansComeFirst(t *testing.T) {
	for _, x := range faults() {
		p := plan()
		x.do(&p)
		for _, names := range [][]string{{"weld", "paint"}, {"", "?"}, {"pump", "pump"}} {
			a, b := names[0], names[1]
			near, e := permit.Near(p, a, b)
			wantError(t, "Near with "+x.what, x.e, e, near)
			conflict, e := permit.Conflict(p, a, b)
			wantError(t, "Conflict with "+x.what, x.e, e, conflict)
			needs, e := permit.Needs(p, a)
			wantError(t, "Needs with "+x.what, x.e, e, needs)
			possible, e := permit.Compatible(p, names)
			wantError(t, "Compatible with "+x.what, x.e, e, possible)
		}
		sets, e := permit.Reachable(p)
		wantError(t, "Reachable with "+x.what, x.e, e, sets)
		sets, e = permit.Maximal(p)
		wantError(t, "Maximal with "+x.what, x.e, e, sets)
		o, e := permit.New(p)
		wantError(t, "New with "+x.what, x.e, e, o)
		o, n, e := permit.Replay(p, []api.Event{{}, {At: -1}})
		wantError(t, "Replay with "+x.what, x.e, e, o, n)
	}
}
