package docking_test

import (
	"math/rand"
	"slices"
	"testing"

	"keelblock/api"
	"keelblock/docking"
	"keelblock/exact"
	"keelblock/floating"
	"keelblock/hull"
)

// P4.7, but for what is tested with Strength

// The greater the water level, the less the upthrust, which is with the buoyancy the mass.
func TestUpthrustFallsWithTheWater(t *testing.T) {
	r := rand.New(rand.NewSource(31))
	count := 0
	for range 150 {
		d := randomDocking(r)
		var levels []api.Rat
		for range 12 {
			levels = append(levels, randomLevel(r, d))
		}
		slices.SortFunc(levels, exact.CmpRat)
		mass, _ := hull.Loads(d.Ship)
		before := whole(mass.Mass)
		for _, w := range levels {
			s, e := docking.At(d, w)
			if e != api.OK {
				continue
			}
			want(t, "the mass", exact.AddRat(s.Upthrust, s.Buoyancy), whole(mass.Mass))
			want(t, "the upthrust has grown", exact.CmpRat(s.Upthrust, before) > 0, false)
			if exact.CmpRat(s.Upthrust, before) < 0 {
				count++
			}
			before = s.Upthrust
		}
	}
	if count < 200 {
		t.Errorf("the upthrust has fallen only %d times", count)
	}
}

// At Touch and above it the ship is afloat, and below it not.
func TestTouchParts(t *testing.T) {
	r := rand.New(rand.NewSource(32))
	count := 0
	small := num("1/1000000000000000000000")
	for range 400 {
		d := randomDocking(r)
		touch, e := docking.Touch(d)
		if e != api.OK {
			continue
		}
		count++
		for _, x := range []struct {
			w      api.Rat
			afloat bool
		}{
			{touch, true},
			{exact.AddRat(touch, small), true},
			{exact.AddRat(touch, whole(r.Intn(5000))), true},
			{exact.SubRat(touch, small), false},
			{exact.SubRat(touch, whole(1+r.Intn(5000))), false},
		} {
			s, e := docking.At(d, x.w)
			if !x.afloat && (e == api.ErrTip || e == api.ErrLoose) {
				continue
			}
			want(t, "the error", e, api.OK)
			want(t, "afloat", s.Phase == api.PAfloat, x.afloat)
		}
		// one block is just touched, none is pressed
		f, _, _ := floating.Float(d.Ship, d.Density)
		l, _ := docking.Blocks(d)
		a := api.Attitude{Sink: exact.SubRat(f.Attitude.Sink, touch), Slope: f.Attitude.Slope}
		y, _ := floating.Immersions(l, a)
		want(t, "the greatest compression", slices.MaxFunc(y, exact.CmpRat), num("0"))
	}
	if count < 100 {
		t.Errorf("only %d dockings", count)
	}
}

// While the blocks at one place alone are loaded, the upthrust times its distance from the centre
// of flotation is the change of the trimming moment.
func TestTrimByUpthrust(t *testing.T) {
	d := tug()
	d.Zones = nil
	d.Blocks = []api.Block{
		{X: 1000, Half: 300, Height: 1600, Width: 500, Stiff: num("50/3"), Limit: 30000},
		{X: 1000, Z: 1200, Half: 300, Height: 2190, Width: 500, Stiff: num("7"), Limit: 30000, Side: true},
		{X: 9000, Half: 300, Height: 900, Width: 500, Stiff: num("100"), Limit: 30000},
	}
	touch, e := docking.Touch(d)
	want(t, "the error", e, api.OK)
	floats, _ := docking.At(d, touch)
	h, _ := hull.Hydrostatics(d.Ship, toWater(floats.Attitude, touch), d.Density)
	for _, down := range []string{"1/7", "1", "5", "20"} {
		level := exact.SubRat(touch, num(down))
		s, e := docking.At(d, level)
		want(t, "the error", e, api.OK)
		want(t, "the phase", s.Phase, api.PTouching)
		n, _ := hull.Hydrostatics(d.Ship, toWater(s.Attitude, level), d.Density)
		want(t, "no level is crossed", n.Area, h.Area)
		turned := minus(bigOf(s.Attitude.Slope), bigOf(floats.Attitude.Slope))
		change := mul(turned, bigOf(h.Long), bigInt(d.Density), quo(bigInt(1), bigInt(1000000000)))
		lever := minus(bigOf(h.Float), bigInt(1000))
		want(t, "the trimming moment", ofBig(change), ofBig(mul(bigOf(s.Upthrust), lever)))
		want(t, "a turn", turned.Sign(), 1)
	}
}
