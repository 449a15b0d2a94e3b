package docking_test

import (
	"fmt"
	"math/big"
	"math/rand"
	"slices"
	"strconv"
	"testing"

	"keelblock/api"
	"keelblock/docking"
	"keelblock/exact"
	"keelblock/floating"
	"keelblock/hull"
)

// P4.3

// A pose is what At must return at a level. Standings are on an even keel where no slope is named.
type pose struct {
	what        string
	d           api.Docking
	level       string
	sink, slope string
	loads       []string
	buoyancy    string
	held        bool
	phase       int
}

// padded is a raft with a block between two others that are lower by 320 mm, as far as its mass
// presses this block.
func padded() api.Docking {
	d := over(keel(5000), keel(10000), keel(15000))
	d.Blocks[1].Height = 1820
	d.Blocks[1].Limit = 320000
	return d
}

func poses() []pose {
	return []pose{
		{"the raft afloat", raft(), "4000", "-2000", "0", []string{"0", "0"}, "320000", false, api.PAfloat},
		{"the raft just touching", raft(), "3500", "-1500", "0", []string{"0", "0"}, "320000", false, api.PAfloat},
		{"the raft landed", raft(), "3000", "-39500/27", "0", []string{"1000000/27", "1000000/27"}, "6640000/27", false, api.PLanded},
		{"the raft, the water just gone", raft(), "1340", "-1340", "0", []string{"160000", "160000"}, "0", false, api.PDry},
		{"the raft dry", raft(), "0", "-1340", "0", []string{"160000", "160000"}, "0", false, api.PDry},
		{"the raft below the floor", raft(), "-10000000", "-1340", "0", []string{"160000", "160000"}, "0", false, api.PDry},
		{"no blocks", over(), "0", "2000", "0", nil, "320000", false, api.PAfloat},
		{"no blocks", over(), "10000000", "-9998000", "0", nil, "320000", false, api.PAfloat},
		// 160 (3000 - h) + 1000 (1500 - h) is the mass
		{"one block", over(keel(10000)), "3000", "-41500/29", "0", []string{"2000000/29"}, "7280000/29", false, api.PTouching},
		// a pair counts twice
		{"a pair", over(side(10000, 500)), "3000", "-39500/27", "0", []string{"2000000/27"}, "6640000/27", true, api.PTouching},
		{"a keel block and a pair at one place", over(keel(10000), side(10000, 1000)), "3000", "-116500/79", "0", []string{"2000000/79", "4000000/79"}, "19280000/79", true, api.PTouching},
		{"a pair just touching", over(keel(5000), keel(15000), side(10000, 500)), "3500", "-1500", "0", []string{"0", "0", "0"}, "320000", false, api.PAfloat},
		// the blocks at the ends hold the raft but carry nothing
		{"dry on one place", padded(), "0", "-1500", "0", []string{"0", "320000", "0"}, "0", false, api.PTouching},
		{"a pair and two blocks, dry", over(side(5000, 500), keel(15000)), "0", "-1460", "1/125", []string{"160000", "160000"}, "0", true, api.PDry},
	}
}

func TestAt(t *testing.T) {
	for _, x := range poses() {
		loads := nums(x.loads...)
		upthrust := new(big.Rat)
		for _, l := range loads {
			upthrust = plus(upthrust, bigOf(l))
		}
		wanted := api.Docked{
			Level: num(x.level), Attitude: at(x.sink, x.slope), Loads: loads,
			Upthrust: ofBig(upthrust), Buoyancy: num(x.buoyancy), Held: x.held, Phase: x.phase,
		}
		if x.buoyancy != "0" {
			w := api.Raised{Density: x.d.Density, Upthrust: wanted.Upthrust}
			wanted.Stable, _ = hull.Stability(x.d.Ship, toWater(wanted.Attitude, num(x.level)), w)
		}
		s, e := docking.At(x.d, num(x.level))
		want(t, x.what+": error", e, api.OK)
		want(t, x.what, s, wanted)
		s, e = docking.At(oddDocking(x.d), odd(num(x.level)))
		want(t, x.what+": error", e, api.OK)
		want(t, x.what, s, wanted)
	}
}

func TestStabilityOfStandings(t *testing.T) {
	s, _ := docking.At(raft(), num("3500"))
	want(t, "afloat", s.Stable, api.Stable{KM: num("11000/3"), KG: num("2000"), GM: num("5000/3"), Other: num("5000/3")})
	s, _ = docking.At(raft(), num("0"))
	want(t, "dry", s.Stable, api.Stable{})
	// the blocks leave 4000/27 mm of the draught
	s, _ = docking.At(raft(), num("1500"))
	want(t, "the buoyancy", s.Buoyancy, num("640000/27"))
	want(t, "the draught", toWater(s.Attitude, s.Level).Sink, num("4000/27"))
	// Cross is 36000 times the volume
	km := plus(bigInt(36000), big.NewRat(2000, 27))
	w, left := bigInt(320000), bigOf(s.Buoyancy)
	moment := minus(mul(left, km), mul(w, bigInt(2000)))
	want(t, "landed", s.Stable, api.Stable{KM: ofBig(km), KG: num("2000"), GM: ofBig(quo(moment, w)), Other: ofBig(quo(moment, left))})
	// free surfaces count as much as the mass
	free := raft()
	free.Ship.Light.Free = 160
	f, _ := docking.At(free, num("1500"))
	want(t, "with a free surface", f.Stable.GM, ofBig(minus(bigOf(s.Stable.GM), big.NewRat(1, 2))))
}

// The standing has the error of the equilibrium.
func TestErrorsOfStandings(t *testing.T) {
	for _, x := range notStanding() {
		s, e := docking.At(x.d, num(x.level))
		wantError(t, x.what+": At", x.e, e, s)
		l, e := docking.Strength(x.d, num(x.level))
		wantError(t, x.what+": Strength", x.e, e, l)
	}
}

// A fall is a docking without an equilibrium at a level.
type fall struct {
	what  string
	d     api.Docking
	level string
	e     api.Errno
}

func notStanding() []fall {
	heavy, heaviest := over(), raft()
	heavy.Ship.Light.Mass = 480001
	heaviest.Ship.Items = []api.Load{{Name: "More", Mass: 1000000000}}
	return []fall{
		{"too heavy for the water", heavy, "5000", api.ErrSink},
		{"too heavy for a body", heaviest, "5000", api.ErrRange},
		{"the level is too high", raft(), "10000001", api.ErrRange},
		{"the level is too high", raft(), "20000001/2", api.ErrRange},
		{"the level is too low", raft(), "-10000001", api.ErrRange},
		{"the level is too low", heavy, "-10000001", api.ErrRange},
		{"all at one place", single(), "0", api.ErrLoose},
		{"all at one place", single(), "2900", api.ErrLoose},
		{"a weight beyond all supports", tipping(), "0", api.ErrTip},
		{"a weight beyond all supports", tipping(), "9000", api.ErrTip},
	}
}

// single has one strip and one block, at the same place.
func single() api.Docking {
	d := over(keel(10000))
	d.Overhang = 10000
	d.Ship.Stations = []api.Station{{X: 10000, Width: 20000, Levels: []int{0, 3000}, Halves: []int{4000}}}
	return d
}

// tipping has its weight beyond the last block and the middle of the only strip.
func tipping() api.Docking {
	d := over(keel(10000), keel(7000))
	d.Ship.Light.X = 10001
	d.Ship.Stations = []api.Station{{X: 8500, Width: 5000, Levels: []int{0, 3000}, Halves: []int{4000}}}
	return d
}

func TestStandingsBySecondOpinion(t *testing.T) {
	r := rand.New(rand.NewSource(23))
	count := map[string]int{}
	for range 2500 {
		d := randomDocking(r)
		level := randomLevel(r, d)
		s, e := docking.At(d, level)
		if e != api.OK {
			count[fmt.Sprint("error ", e)]++
			want(t, "the standing", s, api.Docked{})
			c, _ := hull.Loads(d.Ship)
			_, _, wanted := floating.Solve(api.Body{Weight: c.Mass, At: c.X, Supports: secondSupports(d, level)})
			want(t, "the error", e, wanted)
			continue
		}
		checkStanding(t, d, level, s)
		count[fmt.Sprint("phase ", s.Phase, " ", s.Held)]++
	}
	for _, what := range []string{"error 12", "error 13", "error 14", "phase 0 false", "phase 1 false", "phase 1 true", "phase 2 false", "phase 2 true", "phase 3 false", "phase 3 true"} {
		if count[what] < 10 {
			t.Errorf("only %d of %s: %v", count[what], what, count)
		}
	}
}

// checkStanding demands that a standing is an equilibrium, and that all of it is told of this one.
func checkStanding(t *testing.T, d api.Docking, level api.Rat, s api.Docked) {
	t.Helper()
	loads, water := secondLoads(d, s.Attitude), secondBuoyancy(d, toWater(s.Attitude, level))
	all := slices.Concat(loads, water, weights(d))
	want(t, "the force", ofBig(sumOf(all)), num("0"))
	want(t, "the moment", ofBig(momentOf(all, 0)), num("0"))
	want(t, "the level", s.Level, level)
	want(t, "the loads", len(s.Loads), len(loads))
	held, places := false, map[int]bool{}
	for i, f := range loads {
		want(t, "a load", s.Loads[i], ofBig(f.lift))
		if f.lift.Sign() > 0 {
			places[f.x] = true
			held = held || d.Blocks[i].Side
		}
	}
	want(t, "the upthrust", s.Upthrust, ofBig(sumOf(loads)))
	want(t, "the buoyancy", s.Buoyancy, ofBig(sumOf(water)))
	want(t, "held", s.Held, held)
	wanted := api.PLanded
	switch {
	case len(places) == 0:
		wanted = api.PAfloat
	case len(places) == 1:
		wanted = api.PTouching
	case sumOf(water).Sign() == 0:
		wanted = api.PDry
	}
	want(t, "the phase", s.Phase, wanted)
	want(t, "the stability", s.Stable, secondStability(d, level, s))
	want(t, "a normalized attitude", s.Attitude, api.Attitude{Sink: ofBig(bigOf(s.Attitude.Sink)), Slope: ofBig(bigOf(s.Attitude.Slope))})
}

func secondStability(d api.Docking, level api.Rat, s api.Docked) api.Stable {
	if bigOf(s.Buoyancy).Sign() == 0 {
		return api.Stable{}
	}
	h, _ := hull.Hydrostatics(d.Ship, toWater(s.Attitude, level), d.Density)
	c, _ := hull.Loads(d.Ship)
	w, left := bigInt(c.Mass), minus(bigInt(c.Mass), bigOf(s.Upthrust))
	moment := minus(mul(left, bigOf(h.Meta)), plus(mul(w, bigOf(c.Z)), bigInt(1000*c.Free)))
	return api.Stable{KM: h.Meta, KG: c.Z, GM: ofBig(quo(moment, w)), Other: ofBig(quo(moment, left))}
}

func TestFollow(t *testing.T) {
	levels := course(4000, 3500, 3000, 1340, 0, 3000, 4000, -100000, 100000)
	l, e := docking.Follow(raft(), levels)
	want(t, "the error", e, api.OK)
	want(t, "the standings", len(l), len(levels))
	for i, w := range levels {
		s, _ := docking.At(raft(), whole(w))
		want(t, "a standing", l[i], s)
	}
	for _, d := range []api.Docking{raft(), over()} {
		l, e = docking.Follow(d, nil)
		want(t, "the error", e, api.OK)
		want(t, "no standings", l, []api.Docked{})
	}
}

// A voyage is a course with an error.
type voyage struct {
	what   string
	d      api.Docking
	course []int
	e      api.Errno
}

func voyages() []voyage {
	long := make([]int, 201)
	long[0] = -100001
	return []voyage{
		{"a long course", raft(), long, api.ErrLarge},
		{"a long course", tipping(), make([]int, 201), api.ErrLarge},
		{"a level", raft(), course(0, 100001), api.ErrRange},
		{"a level", raft(), course(-100001, 0), api.ErrRange},
		{"a level and an equilibrium", single(), course(-100001), api.ErrRange},
		{"an equilibrium before a level", single(), course(0, -100001), api.ErrLoose},
	}
}

func TestErrorsOfCourses(t *testing.T) {
	for _, x := range voyages() {
		l, e := docking.Follow(x.d, x.course)
		wantError(t, x.what+": Follow", x.e, e, l)
		i, e := docking.Lift(x.d, x.course)
		wantError(t, x.what+": Lift", x.e, e, i)
	}
	// these errors are failures for Judge
	for _, x := range notStanding() {
		if x.e == api.ErrRange {
			continue
		}
		w, _ := exact.Small(num(x.level).Num)
		l, e := docking.Follow(x.d, course(w, 100001))
		wantError(t, x.what+": Follow", x.e, e, l)
		i, e := docking.Lift(x.d, course(w, 100001))
		wantError(t, x.what+": Lift", x.e, e, i)
	}
	full := make([]int, 200)
	full[3], full[4] = 100000, -100000
	l, e := docking.Follow(raft(), full)
	want(t, "the longest course", e, api.OK)
	want(t, "the longest course", len(l), 200)
}

func TestTouch(t *testing.T) {
	w, e := docking.Touch(raft())
	want(t, "the error", e, api.OK)
	want(t, "the raft", w, num("3500"))
	lower := raft()
	lower.Blocks[1].Height = 1000
	w, _ = docking.Touch(lower)
	want(t, "the other block is lower", w, num("3500"))
	lower.Blocks[0].Height = 900
	w, _ = docking.Touch(lower)
	want(t, "both are lower", w, num("3000"))
	trimmed := raft()
	trimmed.Ship.Items = []api.Load{{Name: "Oil", Mass: 16000, X: 20000}}
	// the attitude is 1700 + X/25
	w, _ = docking.Touch(trimmed)
	want(t, "by the head", w, num("3800"))
	trimmed.Blocks[0].Height = 1950
	w, _ = docking.Touch(trimmed)
	want(t, "the block aft is higher", w, num("3850"))
	low := over(keel(5000))
	low.Blocks[0].Height = 0
	low.Ship.Stations[0].Levels = []int{2500, 6000}
	low.Ship.Stations[1].Levels = []int{2500, 6000}
	w, _ = docking.Touch(low)
	want(t, "the bottom is not the keel line", w, num("2000"))
}

func TestTouchErrors(t *testing.T) {
	w, e := docking.Touch(over())
	wantError(t, "no blocks", api.ErrNone, e, w)
	for _, x := range notStanding() {
		_, _, wanted := floating.Float(x.d.Ship, x.d.Density)
		if len(x.d.Blocks) == 0 {
			wanted = api.ErrNone
		}
		w, e := docking.Touch(x.d)
		if wanted != api.OK {
			wantError(t, x.what, wanted, e, w)
		} else {
			want(t, x.what, e, api.OK)
		}
	}
	heavy := raft()
	heavy.Ship.Light.Mass = 480001
	w, e = docking.Touch(heavy)
	wantError(t, "too heavy", api.ErrSink, e, w)
	heavy.Ship.Light = api.Load{Name: "Light", Mass: 5, X: 15001}
	w, e = docking.Touch(heavy)
	wantError(t, "too far forward", api.ErrTip, e, w)
}

func TestLift(t *testing.T) {
	for _, x := range []struct {
		course []int
		first  int
		e      api.Errno
	}{
		{nil, 0, api.ErrNone},
		{course(0), 0, api.ErrNone},
		{course(3500), 0, api.OK},
		{course(3499), 0, api.ErrNone},
		{course(3500, 4000, 3600), 0, api.OK},
		{course(0, 3000, 3500, 4000), 2, api.OK},
		{course(4000, 0, 3499, 4000), 3, api.OK},
		{course(4000, 0, 4000, 3499), 0, api.ErrNone},
		{course(0, 4000, 0, 4000, 4000), 3, api.OK},
	} {
		what := fmt.Sprint("the course ", x.course)
		first, e := docking.Lift(raft(), x.course)
		want(t, what, first, x.first)
		want(t, what+": error", e, x.e)
	}
}

func TestLiftBySecondOpinion(t *testing.T) {
	r := rand.New(rand.NewSource(24))
	count := map[api.Errno]int{}
	for range 300 {
		d := randomDocking(r)
		var levels []int
		for range r.Intn(6) {
			levels = append(levels, 1000+r.Intn(3000))
		}
		all, wanted := docking.Follow(d, levels)
		first := 0
		for i, s := range all {
			if s.Phase != api.PAfloat {
				first = i + 1
			}
		}
		if wanted == api.OK && first == len(levels) {
			first, wanted = 0, api.ErrNone
		}
		got, e := docking.Lift(d, levels)
		want(t, "the error", e, wanted)
		want(t, "the level", got, first)
		count[e]++
		if len(all) > 0 {
			i := r.Intn(len(all))
			s, _ := docking.At(d, whole(levels[i]))
			want(t, "the standing "+strconv.Itoa(i), all[i], s)
		}
	}
	if count[api.OK] < 30 || count[api.ErrNone] < 30 {
		t.Errorf("only %v courses", count)
	}
}

// A level may be any number.
func TestLevelsOfAnyKind(t *testing.T) {
	level := num("1234567890123456789012345/370370367037037036703703")
	s, e := docking.At(tug(), level)
	want(t, "the error", e, api.OK)
	checkStanding(t, tug(), exact.AddRat(level, api.Rat{}), s)
}
