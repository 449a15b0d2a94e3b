package permit_test

import (
	"fmt"
	"math/rand"
	"slices"
	"strings"
	"testing"

	"keelblock/api"
	"keelblock/permit"
)

// P7.3

func TestCompatible(t *testing.T) {
	for _, x := range []struct {
		names  string
		wanted bool
		e      api.Errno
	}{
		{"", true, api.OK},
		{"weld", true, api.OK},
		{"go", false, api.OK},
		{"pump go", true, api.OK},
		{"go pump", true, api.OK},
		{"paint weld", true, api.OK},
		{"paint pump go weld", true, api.OK},
		{"go go pump", false, api.ErrExists},
		{"deck", false, api.ErrMissing},
		{"go go deck", false, api.ErrExists},
		{"go deck go", false, api.ErrMissing},
		{"weld paint pump weld", false, api.ErrExists},
		{"weld paint pump go x", false, api.ErrMissing},
		{" ", false, api.ErrMissing},
	} {
		names := strings.Split(x.names, " ")
		if x.names == "" {
			names = nil
		}
		got, e := permit.Compatible(plan(), names)
		want(t, fmt.Sprintf("%q", names), []any{got, e}, []any{x.wanted, x.e})
	}
	p := changed(plan(), func(p *api.PermitPlan) { p.Permits[0].Space = "tank" })
	for _, names := range [][]string{{"weld", "paint"}, {"paint", "weld"}, {"weld", "go", "paint", "pump"}} {
		got, e := permit.Compatible(p, names)
		want(t, fmt.Sprint("neighbours: ", names), []any{got, e}, []any{false, api.OK})
	}
}

// The last permits of a long plan count, too.
func TestCompatibleOfTheFullestPlan(t *testing.T) {
	p := changed(full(), func(p *api.PermitPlan) {
		p.Exclusions = []api.Exclusion{{A: api.Diving, B: api.Diving, Reach: 0}}
		for i := 10; i < 20; i++ {
			p.Permits[i].Kind = api.Diving
		}
		p.Permits[0].Locks, p.Permits[19].Locks = nil, []string{"P9", "P8"}
	})
	for _, x := range []struct {
		names  []string
		wanted bool
	}{
		{[]string{"P19"}, false}, {[]string{"P8", "P19"}, false}, {[]string{"P19", "P9"}, false}, {[]string{"P8", "P9", "P19"}, true},
		{[]string{"P19", "P18", "P17", "P0", "P1", "P2", "P3", "P4", "P5", "P6", "P7", "P8", "P9", "P10", "P11", "P12", "P13", "P14", "P15", "P16"}, true},
		{[]string{"P19", "P18", "P17", "P0", "P1", "P2", "P3", "P4", "P5", "P6", "P7", "P8", "P10", "P11", "P12", "P13", "P14", "P15", "P16"}, false},
	} {
		got, e := permit.Compatible(p, x.names)
		want(t, fmt.Sprint(x.names), []any{got, e}, []any{x.wanted, api.OK})
	}
	p.Permits[19].Space = "S18"
	got, e := permit.Compatible(p, []string{"P0", "P1", "P2", "P3", "P4", "P5", "P6", "P7", "P8", "P9", "P18", "P19"})
	want(t, "two divers in a space", []any{got, e}, []any{false, api.OK})
}

func TestReachableOfTheExample(t *testing.T) {
	sets, e := permit.Reachable(plan())
	want(t, "Reachable", []any{sets, e}, []any{[][]string{
		nil, {"weld"}, {"paint"}, {"pump"}, {"weld", "paint"}, {"weld", "pump"}, {"go", "pump"}, {"paint", "pump"},
		{"weld", "go", "pump"}, {"weld", "paint", "pump"}, {"go", "paint", "pump"}, {"weld", "go", "paint", "pump"},
	}, api.OK})
	sets, e = permit.Maximal(plan())
	want(t, "Maximal", []any{sets, e}, []any{[][]string{{"weld", "go", "paint", "pump"}}, api.OK})
	p := changed(plan(), func(p *api.PermitPlan) { p.Permits[0].Space = "hold" })
	sets, e = permit.Maximal(p)
	want(t, "Maximal beside each other", []any{sets, e}, []any{[][]string{{"weld", "go", "pump"}, {"go", "paint", "pump"}}, api.OK})
	p.Permits = nil
	for _, f := range []func(api.PermitPlan) ([][]string, api.Errno){permit.Reachable, permit.Maximal} {
		sets, e := f(p)
		want(t, "no permits", []any{sets, e}, []any{[][]string{nil}, api.OK})
	}
}

// Sets that are contained in another one need not be contained in one with one permit more.
func TestMaximalWithLocks(t *testing.T) {
	p := row(nil, asked("w", api.HotWork, "a", "l", "m"), asked("l", api.Isolation, "a"), asked("m", api.Isolation, "a"), asked("v", api.Diving, "a"))
	p.Exclusions = []api.Exclusion{{A: api.Isolation, B: api.Isolation, Reach: 0}}
	sets, e := permit.Maximal(p)
	want(t, "locks that exclude each other", []any{sets, e}, []any{[][]string{{"l", "v"}, {"m", "v"}}, api.OK})
	p.Exclusions = []api.Exclusion{{A: api.HotWork, B: api.Diving, Reach: 2}}
	sets, e = permit.Maximal(p)
	want(t, "all locks", []any{sets, e}, []any{[][]string{{"w", "l", "m"}, {"l", "m", "v"}}, api.OK})
}

func TestSetsOfManyPermits(t *testing.T) {
	p := row(nil)
	for i := range 10 {
		p.Permits = append(p.Permits, asked(fmt.Sprint("P", i), api.Diving, "a"))
	}
	sets, e := permit.Reachable(p)
	want(t, "all sets of ten", []any{len(sets), e}, []any{1024, api.OK})
	want(t, "the last set of four", sets[1+10+45+120+209], []string{"P6", "P7", "P8", "P9"})
	want(t, "the first set of five", sets[1+10+45+120+210], []string{"P0", "P1", "P2", "P3", "P4"})
	sets, e = permit.Maximal(p)
	want(t, "the greatest set of ten", []any{len(sets), len(sets[0]), e}, []any{1, 10, api.OK})
	p.Permits = append(p.Permits, asked("P10", api.Diving, "a"))
	for what, f := range map[string]func(api.PermitPlan) ([][]string, api.Errno){"Reachable": permit.Reachable, "Maximal": permit.Maximal} {
		sets, e := f(p)
		wantError(t, what+" of eleven", api.ErrLarge, e, sets)
		sets, e = f(full())
		wantError(t, what+" of the fullest plan", api.ErrLarge, e, sets)
	}
}

// secondSets are the possible sets, as lists of places, sorted by the words of the chapter.
func secondSets(p api.PermitPlan) [][]int {
	sets := [][]int{nil}
	for i := range p.Permits {
		for _, s := range slices.Clone(sets) {
			sets = append(sets, append(slices.Clone(s), i))
		}
	}
	sets = slices.DeleteFunc(sets, func(s []int) bool { return !secondPossible(p, s) })
	slices.SortFunc(sets, slices.Compare[[]int])
	slices.SortStableFunc(sets, func(a, b []int) int { return len(a) - len(b) })
	return sets
}

func TestSetsBySecondOpinion(t *testing.T) {
	r := rand.New(rand.NewSource(72))
	several := 0
	for range 1500 {
		p := randomPlan(r)
		sets := secondSets(p)
		var all, greatest [][]string
		for _, s := range sets {
			var names []string
			for _, i := range s {
				names = append(names, p.Permits[i].Name)
			}
			all = append(all, names)
			inside := func(other []int) bool {
				return len(other) > len(s) && !slices.ContainsFunc(s, func(i int) bool { return !slices.Contains(other, i) })
			}
			if !slices.ContainsFunc(sets, inside) {
				greatest = append(greatest, names)
			}
		}
		got, e := permit.Reachable(p)
		want(t, fmt.Sprint("Reachable ", p), []any{got, e}, []any{all, api.OK})
		got, e = permit.Maximal(p)
		want(t, fmt.Sprint("Maximal ", p), []any{got, e}, []any{greatest, api.OK})
		if len(greatest) > 1 {
			several++
		}
		var places []int
		var names []string
		for _, i := range r.Perm(len(p.Permits)) {
			if r.Intn(2) > 0 {
				places, names = append(places, i), append(names, p.Permits[i].Name)
			}
		}
		possible, e := permit.Compatible(p, names)
		want(t, fmt.Sprint("Compatible ", p, names), []any{possible, e}, []any{secondPossible(p, places), api.OK})
	}
	if several < 300 {
		t.Error(several)
	}
}
