package hull_test

import (
	"math/rand"
	"testing"

	"keelblock/api"
	"keelblock/exact"
	"keelblock/hull"
)

// P2.9

func TestTextIsReadBack(t *testing.T) {
	r := rand.New(rand.NewSource(25))
	for range 500 {
		s := randomShip(r)
		text, e := hull.Print(s)
		back, line, f := hull.Parse(text)
		want(t, "Parse of Print", []any{back, line, e, f}, []any{s, 0, api.OK, api.OK})
	}
}

func TestDisplacementNeverFalls(t *testing.T) {
	r := rand.New(rand.NewSource(26))
	for range 300 {
		s, a := randomShip(r), randomAttitude(r)
		deeper := api.Attitude{Sink: exact.AddRat(a.Sink, num("700/3")), Slope: a.Slope}
		h, e := hull.Hydrostatics(s, a, 1000)
		if e != api.OK {
			continue
		}
		more, e := hull.Hydrostatics(s, deeper, 1000)
		want(t, "the error in more water", e, api.OK)
		want(t, "more water displaces less", exact.CmpRat(more.Displacement, h.Displacement) < 0, false)
	}
}

// valuesOf are the forces of the supports at an attitude.
func valuesOf(l []api.Support, a api.Attitude) api.Rat {
	sum := num("0")
	for _, p := range l {
		v, _ := exact.Value(p.Curve, exact.AddRat(p.C, hull.Immersion(a, p.X)))
		sum = exact.AddRat(sum, v)
	}
	return sum
}

func TestSupportsCarryTheDisplacement(t *testing.T) {
	r := rand.New(rand.NewSource(27))
	for range 300 {
		s, a, density := randomShip(r), randomAttitude(r), 900+r.Intn(201)
		l, e := hull.Supports(s, density)
		h, f := hull.Hydrostatics(s, a, density)
		if f != api.OK {
			h.Displacement = num("0")
		}
		want(t, "the forces of the supports", []any{valuesOf(l, a), e}, []any{h.Displacement, api.OK})
	}
}

// A step so small that no level is passed tells the derivatives to the right.
func TestDerivativesOfTheVolume(t *testing.T) {
	r := rand.New(rand.NewSource(28))
	step := num("1/1000000000000")
	for range 300 {
		s, a := randomShip(r), randomAttitude(r)
		h, e := hull.Hydrostatics(s, a, 1000)
		if e != api.OK {
			continue
		}
		deeper, _ := hull.Hydrostatics(s, api.Attitude{Sink: exact.AddRat(a.Sink, step), Slope: a.Slope}, 1000)
		grown, _ := exact.QuoRat(exact.SubRat(deeper.Volume, h.Volume), step)
		want(t, "the volume by Sink", grown, h.Area)
		// the slope turns the water about 0: to the right only in front of it, so the ship is put there
		s = inFront(s)
		h, e = hull.Hydrostatics(s, a, 1000)
		if e != api.OK {
			continue
		}
		turned, _ := hull.Hydrostatics(s, api.Attitude{Sink: a.Sink, Slope: exact.AddRat(a.Slope, step)}, 1000)
		grown, _ = exact.QuoRat(exact.SubRat(turned.Volume, h.Volume), step)
		want(t, "the volume by Slope", grown, exact.MulRat(h.Area, h.Float))
	}
}

func inFront(s api.Ship) api.Ship {
	by := 1 - s.Stations[0].X
	for i := range s.Stations {
		s.Stations[i].X += by
	}
	return s
}

func TestLoadsComeAndGo(t *testing.T) {
	r := rand.New(rand.NewSource(29))
	for range 300 {
		s := randomShip(r)
		l := api.Load{Name: "More", Mass: 1 + r.Intn(100000), X: r.Intn(20000) - 5000, Z: r.Intn(5000) - 1000, Free: r.Intn(100)}
		with, e := hull.With(s, l)
		without, f := hull.Without(with, "More")
		want(t, "a load that is taken away again", []any{without, e, f}, []any{s, api.OK, api.OK})
		before, _ := hull.Loads(s)
		after, _ := hull.Loads(with)
		want(t, "the mass and the free surfaces", []int{after.Mass, after.Free}, []int{before.Mass + l.Mass, before.Free + l.Free})
		between := func(a, b, c api.Rat) bool { return exact.CmpRat(a, b)*exact.CmpRat(b, c) >= 0 }
		want(t, "X between both", between(before.X, after.X, exact.Whole(exact.Of(l.X))), true)
		want(t, "Z between both", between(before.Z, after.Z, exact.Whole(exact.Of(l.Z))), true)
		moved, e := hull.Move(with, "More", 1, 2)
		back, f := hull.Move(moved, "More", l.X, l.Z)
		want(t, "a load that is moved back", []any{back, e, f}, []any{with, api.OK, api.OK})
	}
}

func TestStrengthAtTheLastPlace(t *testing.T) {
	r := rand.New(rand.NewSource(30))
	seen := 0
	for range 300 {
		s, a := randomShip(r), randomAttitude(r)
		h, e := hull.Hydrostatics(s, a, 1000)
		if e != api.OK {
			continue
		}
		seen++
		c, _ := hull.Loads(s)
		l, _ := hull.Strength(s, a, 1000)
		last := l[len(l)-1]
		mass, x := exact.Whole(exact.Of(c.Mass)), exact.Whole(exact.Of(last.X))
		want(t, "the last shear force", last.Shear, exact.SubRat(h.Displacement, mass))
		up := exact.MulRat(h.Displacement, exact.SubRat(x, h.X))
		down := exact.MulRat(mass, exact.SubRat(x, c.X))
		want(t, "the last moment", last.Moment, exact.SubRat(up, down))
	}
	if seen < 100 {
		t.Errorf("only %d ships float", seen)
	}
}

// The deflection that the metacentric height of a known KG would give shows this KG.
func TestExperimentShowsKG(t *testing.T) {
	r := rand.New(rand.NewSource(31))
	for range 100 {
		s := barge()
		s.Light.Z, s.Light.Free = r.Intn(3000), r.Intn(1000)
		known, _ := hull.Stability(s, at("2000", "0"), api.Raised{Density: 1000})
		a, _ := exact.Small(known.GM.Num)
		b, _ := exact.Small(known.GM.Den)
		// the displacement is 10 * 32000
		shown, e := hull.Experiment(incline(s, 10, api.Shift{Mass: a, Distance: 32000, Deflection: b}))
		want(t, "the experiment", []any{shown.GM, shown.KG, e}, []any{known.GM, known.KG, api.OK})
	}
}
