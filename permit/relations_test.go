package permit_test

import (
	"fmt"
	"math/rand"
	"testing"

	"keelblock/api"
	"keelblock/permit"
)

// P7.2

// row is a plan of spaces a, b, c and d, each a neighbour of the next one, of which a, b and d are
// enclosed; b and c list each other.
func row(exclusions []api.Exclusion, permits ...api.Permit) api.PermitPlan {
	return api.PermitPlan{
		Spaces: []api.Space{
			{Name: "a", Enclosed: true},
			{Name: "b", Enclosed: true, Next: []string{"c", "a"}},
			{Name: "c", Next: []string{"b"}},
			{Name: "d", Enclosed: true, Next: []string{"c"}},
		},
		Exclusions: exclusions,
		Permits:    permits,
		GasMinutes: 60,
	}
}

func TestNear(t *testing.T) {
	for pair, wanted := range map[[2]string]int{
		{"deck", "deck"}: 0, {"deck", "tank"}: 1, {"deck", "hold"}: 2,
		{"tank", "deck"}: 1, {"tank", "tank"}: 0, {"tank", "hold"}: 1,
		{"hold", "deck"}: 2, {"hold", "tank"}: 1, {"hold", "hold"}: 0,
	} {
		n, e := permit.Near(plan(), pair[0], pair[1])
		want(t, fmt.Sprint(pair), []any{n, e}, []any{wanted, api.OK})
	}
	for i, a := range []string{"a", "b", "c", "d"} {
		for k, b := range []string{"a", "b", "c", "d"} {
			n, e := permit.Near(row(nil), a, b)
			want(t, a+" and "+b, []any{n, e}, []any{min(max(i-k, k-i), 2), api.OK})
		}
	}
	for _, pair := range [][2]string{{"deck", "weld"}, {"weld", "deck"}, {"", ""}, {"sea", "sea"}, {"Deck", "deck"}} {
		n, e := permit.Near(plan(), pair[0], pair[1])
		wantError(t, fmt.Sprint(pair), api.ErrMissing, e, n)
	}
}

func TestConflictOfTheExample(t *testing.T) {
	for _, x := range []struct {
		a, b   string
		wanted bool
	}{{"weld", "paint", false}, {"weld", "go", false}, {"paint", "pump", false}, {"paint", "paint", false}} {
		got, e := permit.Conflict(plan(), x.a, x.b)
		want(t, x.a+" and "+x.b, []any{got, e}, []any{x.wanted, api.OK})
	}
	p := plan()
	p.Permits[0].Space = "tank"
	got, e := permit.Conflict(p, "weld", "paint")
	want(t, "neighbours", []any{got, e}, []any{true, api.OK})
	for _, pair := range [][2]string{{"weld", "deck"}, {"deck", "weld"}, {"", ""}, {"x", "x"}} {
		got, e := permit.Conflict(plan(), pair[0], pair[1])
		wantError(t, fmt.Sprint(pair), api.ErrMissing, e, got)
	}
}

// Every pair of kinds, spaces and reaches, in both orders.
func TestConflict(t *testing.T) {
	spaces := []string{"a", "b", "c", "d"}
	for a := range 6 {
		for b := range 6 {
			for reach := range 3 {
				for i, first := range spaces {
					for k, second := range spaces {
						p := row([]api.Exclusion{{A: 5 - a, B: a, Reach: 2}, {A: a, B: b, Reach: reach}}, asked("x", a, first), asked("y", b, second), asked("z", 5-a, "d"))
						wanted := reach == 2 || max(i-k, k-i) <= reach || b == 5-a
						got, e := permit.Conflict(p, "x", "y")
						want(t, fmt.Sprint(p), []any{got, e}, []any{wanted, api.OK})
						got, e = permit.Conflict(p, "y", "x")
						want(t, fmt.Sprint("the other way round: ", p), []any{got, e}, []any{wanted, api.OK})
						got, e = permit.Conflict(p, "x", "x")
						want(t, fmt.Sprint("itself: ", p), []any{got, e}, []any{false, api.OK})
					}
				}
			}
		}
	}
	p := row([]api.Exclusion{{A: api.HotWork, B: api.Diving, Reach: 2}}, asked("x", api.HotWork, "a"), asked("y", api.HotWork, "a"), asked("z", api.Entry, "a"))
	for _, pair := range [][2]string{{"x", "y"}, {"x", "z"}, {"z", "y"}} {
		got, e := permit.Conflict(p, pair[0], pair[1])
		want(t, fmt.Sprint("one kind of two: ", pair), []any{got, e}, []any{false, api.OK})
	}
}

func TestNeeds(t *testing.T) {
	for _, x := range []struct {
		kind   int
		space  string
		wanted []string
	}{
		{api.HotWork, "a", []string{"a", "b"}}, {api.HotWork, "b", []string{"b", "a"}}, {api.HotWork, "c", []string{"b", "d"}}, {api.HotWork, "d", []string{"d"}},
		{api.Entry, "a", []string{"a"}}, {api.Entry, "b", []string{"b"}}, {api.Entry, "c", nil}, {api.Entry, "d", []string{"d"}},
		{api.Spraying, "a", []string{"a"}}, {api.Spraying, "b", []string{"b"}}, {api.Spraying, "c", nil}, {api.Spraying, "d", []string{"d"}},
		{api.Radiography, "a", nil}, {api.Diving, "b", nil}, {api.Isolation, "d", nil}, {api.Radiography, "c", nil},
	} {
		got, e := permit.Needs(row(nil, asked("y", 5-x.kind, "d"), asked("x", x.kind, x.space)), "x")
		want(t, fmt.Sprint(x), []any{got, e}, []any{x.wanted, api.OK})
	}
	for name, wanted := range map[string][]string{"weld": {"tank"}, "go": {"tank"}, "paint": {"hold"}, "pump": nil} {
		got, e := permit.Needs(plan(), name)
		want(t, name, []any{got, e}, []any{wanted, api.OK})
	}
	for _, name := range []string{"", "deck", "Weld", "x"} {
		got, e := permit.Needs(plan(), name)
		wantError(t, name, api.ErrMissing, e, got)
	}
}

// The last of its spaces is that of the permit, and stands first.
func TestNeedsOfTheFullestPlan(t *testing.T) {
	p := full()
	p.Permits[19].Kind, p.Permits[19].Space = api.HotWork, "S28"
	wanted := []string{"S28"}
	for i := 0; i < 28; i += 2 {
		wanted = append(wanted, fmt.Sprint("S", i))
	}
	got, e := permit.Needs(p, "P19")
	want(t, "needs", []any{got, e}, []any{wanted, api.OK})
}

// P7.2 and P7.9: relations by the words of the chapter, and in both orders.
func TestRelationsBySecondOpinion(t *testing.T) {
	r := rand.New(rand.NewSource(71))
	count := map[string]int{}
	for range 500 {
		p := randomPlan(r)
		for _, a := range p.Spaces {
			for _, b := range p.Spaces {
				n, e := permit.Near(p, a.Name, b.Name)
				want(t, fmt.Sprint(p), []any{n, e}, []any{secondNear(a, b), api.OK})
				count[fmt.Sprint("near ", n)]++
			}
		}
		for i, a := range p.Permits {
			needs, e := permit.Needs(p, a.Name)
			want(t, fmt.Sprint(p), []any{needs, e}, []any{secondNeeds(p, a), api.OK})
			for k, b := range p.Permits {
				got, e := permit.Conflict(p, a.Name, b.Name)
				want(t, fmt.Sprint(p), []any{got, e}, []any{secondConflict(p, i, k), api.OK})
				back, _ := permit.Conflict(p, b.Name, a.Name)
				want(t, fmt.Sprint("in the other order: ", p), back, got)
				count[fmt.Sprint("conflict ", got)]++
			}
		}
	}
	for _, what := range []string{"near 0", "near 1", "near 2", "conflict true", "conflict false"} {
		if count[what] < 500 {
			t.Error(count)
		}
	}
}
