package floating_test

import (
	"math/rand"
	"slices"
	"testing"

	"keelblock/api"
	"keelblock/exact"
	"keelblock/floating"
	"keelblock/hull"
)

// P3.7, and what P3.8 says of ships.

// barge is the ship of chapter 2's examples.
func barge(stations ...api.Station) api.Ship {
	return api.Ship{
		Name: "Barge", Length: 20000, Stations: stations,
		Light: api.Load{Name: "Light", Mass: 320000, X: 10000, Z: 2000},
	}
}

func box(x, width int) api.Station {
	return api.Station{X: x, Width: width, Levels: []int{0, 3000}, Halves: []int{4000}}
}

func TestWeigh(t *testing.T) {
	for _, l := range [][]api.Support{nil, raft(), {spring(5)}} {
		for _, given := range [][]api.Support{l, oddBody(body(1, "0", l...)).Supports} {
			b, e := floating.Weigh(tug(), given)
			wanted := body(33501, "0", l...)
			wanted.At = ratio(30000*9000-1500*500+2001*14000, 33501)
			want(t, "the body", b, wanted)
			want(t, "the error", e, api.OK)
		}
	}
}

func TestWeighErrors(t *testing.T) {
	heavy := tug()
	heavy.Items[0].Mass = 1000000000 - 30000 - 2001
	b, e := floating.Weigh(heavy, raft())
	want(t, "the greatest mass", e, api.OK)
	want(t, "the greatest mass", b.Weight, 1000000000)
	heavy.Items[0].Mass++
	b, e = floating.Weigh(heavy, raft())
	wantError(t, "too great a mass", api.ErrRange, e, b)
	bad := []api.Support{{Curve: api.Curve{Starts: []int{5}}}}
	b, e = floating.Weigh(heavy, bad)
	wantError(t, "mass and supports", api.ErrRange, e, b)
	b, e = floating.Weigh(tug(), bad)
	wantError(t, "supports", api.ErrShape, e, b)
	unnamed := tug()
	unnamed.Name = ""
	for _, l := range [][]api.Support{raft(), bad, make([]api.Support, 101)} {
		b, e = floating.Weigh(unnamed, l)
		wantError(t, "a ship without a name", api.ErrName, e, b)
	}
}

func TestFloatExamples(t *testing.T) {
	s, r, e := floating.Float(barge(box(10000, 20000)), 1000)
	wantError(t, "one station", api.ErrLoose, e, s, r)
	s, r, e = floating.Float(barge(box(5000, 10000), box(15000, 10000)), 1000)
	want(t, "the error", e, api.OK)
	want(t, "the refusal", r, api.Refusal{})
	want(t, "the barge", s, api.Solution{Attitude: at("2000", "0"), Forces: nums("160000", "160000")})
	trimmed := barge(box(5000, 10000), box(15000, 10000))
	trimmed.Items = []api.Load{{Name: "Oil", Mass: 16000, X: 20000}}
	s, _, e = floating.Float(trimmed, 1000)
	want(t, "the error", e, api.OK)
	// 24000 kg more forward and 8000 kg less aft, at 80 kg for a millimetre
	want(t, "the barge", s, api.Solution{Attitude: at("1700", "1/25"), Forces: nums("152000", "184000")})
}

func TestFloatErrors(t *testing.T) {
	two := barge(box(5000, 10000), box(15000, 10000))
	for _, density := range []int{899, 1101, -5} {
		s, r, e := floating.Float(two, density)
		wantError(t, "density", api.ErrRange, e, s, r)
	}
	for _, density := range []int{900, 1100} {
		_, _, e := floating.Float(two, density)
		want(t, "density", e, api.OK)
	}
	unnamed := two
	unnamed.Name = "7"
	s, r, e := floating.Float(unnamed, 899)
	wantError(t, "a ship without a name", api.ErrName, e, s, r)
	heavy := two
	heavy.Light.Mass = 1000000000
	s, r, e = floating.Float(heavy, 1000)
	want(t, "a ship that sinks", s, api.Solution{})
	want(t, "a ship that sinks", r, to("1", "0"))
	want(t, "a ship that sinks", e, api.ErrSink)
	heavy.Items = []api.Load{{Name: "More", Mass: 1}}
	s, r, e = floating.Float(heavy, 1000)
	wantError(t, "more than a body weighs", api.ErrRange, e, s, r)
	s, r, e = floating.Float(heavy, 899)
	wantError(t, "density first", api.ErrRange, e, s, r)
	aft := two
	aft.Light.X = 4999
	s, r, e = floating.Float(aft, 1000)
	want(t, "a ship that tips", s, api.Solution{})
	want(t, "a ship that tips", r, to("5000", "-1"))
	want(t, "a ship that tips", e, api.ErrTip)
}

// P3.8: a floating ship displaces its mass, and the centre of the buoyancy is above that of the
// loads.
func TestFloatingShipDisplacesItsMass(t *testing.T) {
	r := rand.New(rand.NewSource(12))
	count := 0
	for range 300 {
		ship := randomShip(r)
		density := 900 + r.Intn(201)
		s, _, e := floating.Float(ship, density)
		if e != api.OK {
			continue
		}
		count++
		h, e := hull.Hydrostatics(ship, s.Attitude, density)
		want(t, "the error", e, api.OK)
		c, _ := hull.Loads(ship)
		want(t, "the displacement", h.Displacement, whole(c.Mass))
		want(t, "the centre of buoyancy", h.X, c.X)
		l, _ := hull.Supports(ship, density)
		b, _ := floating.Weigh(ship, l)
		want(t, "the check", floating.CheckSolution(b, s), api.OK)
	}
	if count < 50 {
		t.Errorf("only %d ships float", count)
	}
}

func randomShip(r *rand.Rand) api.Ship {
	s := api.Ship{Name: "R", Length: 20000}
	room := 0
	for i := range 2 + r.Intn(5) {
		t := api.Station{X: 2000 * i, Width: 1 + r.Intn(2000), Levels: []int{r.Intn(300)}}
		for k := range 1 + r.Intn(5) {
			t.Levels = append(t.Levels, t.Levels[k]+1+r.Intn(900))
			t.Halves = append(t.Halves, r.Intn(4)*r.Intn(900))
			room += 2 * t.Halves[k] * t.Width * (t.Levels[k+1] - t.Levels[k]) / 1000000
		}
		s.Stations = append(s.Stations, t)
	}
	s.Light = api.Load{Name: "Light", Mass: 1 + r.Intn(1+room/1500), X: 1000 + r.Intn(2000*len(s.Stations)), Z: 5}
	s.Items = []api.Load{{Name: "Oil", Mass: r.Intn(1 + room/3000), X: 2000}}
	return s
}

// The water is no deeper than it must be for the ship to float: the docking of chapter 4 begins
// with the same supports at another level.
func TestFloatInRaisedWater(t *testing.T) {
	l, _ := hull.Supports(tug(), 1025)
	b, _ := floating.Weigh(tug(), l)
	s, _, e := floating.Float(tug(), 1025)
	if e != api.OK {
		t.Fatalf("error %d", e)
	}
	b, _ = floating.Raise(b, num("3456/7"))
	raised, _, e := floating.Solve(b)
	want(t, "the error", e, api.OK)
	want(t, "the forces", raised.Forces, s.Forces)
	want(t, "the sink", raised.Attitude.Sink, exact.SubRat(s.Attitude.Sink, num("3456/7")))
	// the order of the supports is only an order
	slices.Reverse(b.Supports)
	again, _, _ := floating.Solve(b)
	want(t, "the attitude", again.Attitude, raised.Attitude)
	slices.Reverse(again.Forces)
	want(t, "the forces", again.Forces, raised.Forces)
}
