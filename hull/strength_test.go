package hull_test

import (
	"fmt"
	"math/rand"
	"slices"
	"testing"

	"keelblock/api"
	"keelblock/exact"
	"keelblock/hull"
)

// P2.8

func force(x int, shear, moment string) api.Force {
	return api.Force{X: x, Shear: num(shear), Moment: num(moment)}
}

func TestStrength(t *testing.T) {
	raft := barge()
	raft.Stations = []api.Station{
		{X: 5000, Width: 10000, Levels: []int{0, 3000}, Halves: []int{4000}},
		{X: 15000, Width: 10000, Levels: []int{0, 3000}, Halves: []int{4000}},
	}
	for _, x := range []struct {
		what    string
		s       api.Ship
		a       api.Attitude
		density int
		wanted  []api.Force
	}{
		{"one place", barge(), at("2000", "0"), 1000, []api.Force{force(10000, "0", "0")}},
		{"one place in the sea", barge(), at("2000", "0"), 1025, []api.Force{force(10000, "8000", "0")}},
		{"two strips", raft, at("2000", "0"), 1000, []api.Force{
			force(5000, "160000", "0"), force(10000, "-160000", "800000000"), force(15000, "0", "0"),
		}},
		{"two strips at a slope", raft, at("1000", "1/10"), 1000, []api.Force{
			force(5000, "120000", "0"), force(10000, "-200000", "600000000"), force(15000, "0", "-400000000"),
		}},
		{"nothing immersed", raft, at("0", "0"), 1000, []api.Force{
			force(5000, "0", "0"), force(10000, "-320000", "0"), force(15000, "-320000", "-1600000000"),
		}},
		{"a tug in the air", tug(), at("-1000000", "0"), 900, []api.Force{
			force(-500, "-1500", "0"), force(501, "-1500", "-1501500"), force(9000, "-91500", "-14250000"),
			force(12000, "-91500", "-288750000"), force(14000, "-96501", "-471750000"), force(20001, "-96501", "-1050852501"),
		}},
	} {
		for _, a := range []api.Attitude{x.a, oddAt(x.a)} {
			l, e := hull.Strength(x.s, a, x.density)
			want(t, "Strength of "+x.what, []any{l, e}, []any{x.wanted, api.OK})
		}
	}
	for _, density := range []int{899, 1101, 0} {
		l, e := hull.Strength(barge(), at("2000", "0"), density)
		wantError(t, "Strength at a density", api.ErrRange, e, l)
		l, e = hull.Strength(barge(), at("-1", "0"), density)
		wantError(t, "Strength of nothing at a density", api.ErrRange, e, l)
	}
	for _, density := range []int{900, 1100} {
		_, e := hull.Strength(barge(), at("2000", "0"), density)
		want(t, "the error of Strength", e, api.OK)
	}
}

// secondStrength adds up all forces for each place anew.
func secondStrength(s api.Ship, a api.Attitude, density int) []api.Force {
	type lift struct {
		x  int
		by api.Rat
	}
	var lifts []lift
	var places []int
	per, _ := exact.Ratio(density, 1000000000)
	for _, c := range s.Stations {
		area, _ := hull.Area(c, hull.Immersion(a, c.X))
		lifts = append(lifts, lift{c.X, exact.MulRat(exact.MulRat(area, per), exact.Whole(exact.Of(c.Width)))})
		places = append(places, c.X)
	}
	for _, l := range append([]api.Load{s.Light}, s.Items...) {
		lifts = append(lifts, lift{l.X, exact.Whole(exact.Of(-l.Mass))})
		places = append(places, l.X)
	}
	slices.Sort(places)
	var out []api.Force
	for _, x := range slices.Compact(places) {
		f := api.Force{X: x}
		for _, l := range lifts {
			if l.x <= x {
				f.Shear = exact.AddRat(f.Shear, l.by)
				f.Moment = exact.AddRat(f.Moment, exact.MulRat(l.by, exact.Whole(exact.Of(x-l.x))))
			}
		}
		out = append(out, f)
	}
	return out
}

func TestStrengthAgainstASecondOpinion(t *testing.T) {
	r := rand.New(rand.NewSource(24))
	for i := range 500 {
		s, a, density := randomShip(r), randomAttitude(r), 900+r.Intn(201)
		if i == 0 {
			s, a = greatest(), at("99999", "1/1000001")
		}
		l, e := hull.Strength(s, a, density)
		want(t, "Strength", []any{l, e}, []any{secondStrength(s, a, density), api.OK})
	}
}

// The places come from a map: their order does not depend on it.
func TestStrengthOfManyPlaces(t *testing.T) {
	s := barge()
	for i := range 60 {
		s.Items = append(s.Items, api.Load{Name: fmt.Sprint("I", i), Mass: 1, X: i * 7919 % 1000})
	}
	for range 20 {
		l, _ := hull.Strength(s, at("2000", "0"), 1000)
		want(t, "the places", len(l), 61)
		for i := 1; i < len(l); i++ {
			want(t, "places ascend", l[i-1].X < l[i].X, true)
		}
	}
}
