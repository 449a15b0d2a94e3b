package hull_test

import (
	"math"
	"math/big"
	"math/rand"
	"testing"

	"keelblock/api"
	"keelblock/exact"
	"keelblock/hull"
)

// P2.3

func TestImmersion(t *testing.T) {
	for _, x := range []struct {
		a      api.Attitude
		x      int
		wanted string
	}{
		{at("2000", "0"), 10000, "2000"},
		{at("2000", "1/100"), 10000, "2100"},
		{at("2000", "-1/300"), 10000, "5900/3"},
		{at("1/6", "1/3"), -1, "-1/6"},
		{at("1/2", "1/2"), -1, "0"},
		{at("0", "1"), math.MinInt, "-9223372036854775808"},
		{at("1", "2"), math.MaxInt, "18446744073709551615"},
	} {
		want(t, "Immersion", hull.Immersion(x.a, x.x), num(x.wanted))
		want(t, "Immersion of another representation", hull.Immersion(oddAt(x.a), x.x), num(x.wanted))
	}
	want(t, "Immersion of nothing", hull.Immersion(api.Attitude{}, 5), num("0"))
}

func TestAreaAndHalf(t *testing.T) {
	station := api.Station{X: 5, Width: 3, Levels: []int{100, 200, 400, 500}, Halves: []int{10, 0, 7}}
	for _, x := range []struct {
		y, area string
		half    int
	}{
		{"-100000000000000000000", "0", 0},
		{"-1", "0", 0},
		{"0", "0", 0},
		{"99", "0", 0},
		{"299/3", "0", 0},
		{"100", "0", 10},
		{"301/3", "20/3", 10},
		{"199", "1980", 10},
		{"1999/10", "1998", 10},
		{"200", "2000", 0},
		{"300", "2000", 0},
		{"4799/12", "2000", 0},
		{"400", "2000", 7},
		{"450", "2700", 7},
		{"4999/10", "16993/5", 7},
		{"500", "3400", 0},
		{"1001/2", "3400", 0},
		{"100000000000000000000", "3400", 0},
	} {
		for _, y := range []api.Rat{num(x.y), odd(num(x.y))} {
			area, e := hull.Area(station, y)
			want(t, "Area at "+x.y, []any{area, e}, []any{num(x.area), api.OK})
			half, e := hull.Half(station, y)
			want(t, "Half at "+x.y, []any{half, e}, []any{x.half, api.OK})
		}
	}
	great := api.Station{X: -1000000, Width: 100000, Levels: []int{0, 100000}, Halves: []int{100000}}
	area, e := hull.Area(great, num("100000"))
	want(t, "the greatest area", []any{area, e}, []any{num("20000000000"), api.OK})
	low := api.Station{Width: 1, Levels: []int{0, 1}, Halves: []int{3}}
	half, e := hull.Half(low, api.Rat{})
	want(t, "Half at the keel", []any{half, e}, []any{3, api.OK})
}

// A station alone has the errors that Check has for it.
func TestErrorsOfAStation(t *testing.T) {
	for _, f := range append(stationFaults(), formFaults()...) {
		s := tug()
		f.change(&s)
		for _, station := range s.Stations {
			one := barge()
			one.Stations = []api.Station{station}
			wantStationError(t, f.what, station, hull.Check(one))
		}
	}
	wantStationError(t, "nothing", api.Station{}, api.ErrRange)
	wantStationError(t, "no levels", api.Station{Width: 1}, api.ErrShape)
	wantStationError(t, "one level", api.Station{Width: 1, Levels: []int{1}}, api.ErrShape)
	wantStationError(t, "the place before the shape", api.Station{X: 1000001, Width: 1}, api.ErrRange)
}

func wantStationError(t *testing.T, what string, station api.Station, wanted api.Errno) {
	t.Helper()
	area, e := hull.Area(station, num("150"))
	half, f := hull.Half(station, num("150"))
	if wanted == api.OK {
		want(t, "the errors of "+what, []any{e, f}, []any{api.OK, api.OK})
		return
	}
	wantError(t, "Area of "+what, wanted, e, area)
	wantError(t, "Half of "+what, wanted, f, half)
}

// P2.4

func hydro(l ...string) api.Hydro {
	n := nums(l...)
	return api.Hydro{Volume: n[0], Displacement: n[1], X: n[2], Z: n[3], Area: n[4], Float: n[5], Cross: n[6], Long: n[7], Meta: n[8]}
}

func TestHydrostatics(t *testing.T) {
	raft := barge()
	raft.Stations = []api.Station{
		{X: 5000, Width: 10000, Levels: []int{0, 3000}, Halves: []int{4000}},
		{X: 15000, Width: 10000, Levels: []int{0, 3000}, Halves: []int{4000}},
	}
	stepped := barge()
	stepped.Stations = []api.Station{{X: -30, Width: 7, Levels: []int{10, 20, 40}, Halves: []int{3, 6}}}
	for _, x := range []struct {
		what    string
		s       api.Ship
		a       api.Attitude
		density int
		wanted  api.Hydro
	}{
		{"the barge of the example", barge(), at("2000", "0"), 1000,
			hydro("320000000000", "320000", "10000", "1000", "160000000", "10000", "2560000000000000/3", "0", "11000/3")},
		{"the barge in the sea", barge(), at("2000", "0"), 1025,
			hydro("320000000000", "328000", "10000", "1000", "160000000", "10000", "2560000000000000/3", "0", "11000/3")},
		{"the barge at its last level", barge(), at("3000", "0"), 1000,
			hydro("480000000000", "480000", "10000", "1500", "0", "0", "0", "0", "1500")},
		{"the barge below the water", barge(), at("7000", "1"), 900,
			hydro("480000000000", "432000", "10000", "1500", "0", "0", "0", "0", "1500")},
		{"the barge at a slope", barge(), at("1000", "1/10"), 1000,
			hydro("320000000000", "320000", "10000", "1000", "160000000", "10000", "2560000000000000/3", "0", "11000/3")},
		{"two strips", raft, at("2000", "0"), 1000,
			hydro("320000000000", "320000", "10000", "1000", "160000000", "10000", "2560000000000000/3", "4000000000000000", "11000/3")},
		{"two strips, one of them dry", raft, at("-2000", "1/5"), 1000,
			hydro("80000000000", "80000", "15000", "500", "80000000", "15000", "1280000000000000/3", "0", "17500/3")},
		{"two strips, one of them just touched", raft, at("-1000", "1/5"), 1000,
			hydro("160000000000", "160000", "15000", "1000", "160000000", "10000", "2560000000000000/3", "4000000000000000", "19000/3")},
		{"two strips, one of them dry, the other one below the water", raft, at("-2500", "2/5"), 1000,
			hydro("240000000000", "240000", "15000", "1500", "0", "0", "0", "0", "1500")},
		{"a step", stepped, at("121/4", "0"), 1100,
			hydro("1281", "14091/10000000", "-30", "10641/488", "84", "-30", "1008", "0", "11025/488")},
	} {
		h, e := hull.Hydrostatics(x.s, x.a, x.density)
		want(t, x.what, []any{h, e}, []any{x.wanted, api.OK})
		h, e = hull.Hydrostatics(x.s, oddAt(x.a), x.density)
		want(t, x.what+" at another representation", []any{h, e}, []any{x.wanted, api.OK})
	}
}

func TestErrorsOfHydrostatics(t *testing.T) {
	for _, x := range []struct {
		a       api.Attitude
		density int
		wanted  api.Errno
	}{
		{at("2000", "0"), 900, api.OK},
		{at("2000", "0"), 1100, api.OK},
		{at("2000", "0"), 899, api.ErrRange},
		{at("2000", "0"), 1101, api.ErrRange},
		{at("2000", "0"), math.MinInt, api.ErrRange},
		{at("-1", "0"), 899, api.ErrRange},
		{at("-1", "0"), 1000, api.ErrNone},
		{at("0", "0"), 1000, api.ErrNone},
		{at("1/1000", "0"), 1000, api.OK},
		{at("10000", "-1"), 1000, api.ErrNone},
	} {
		h, e := hull.Hydrostatics(barge(), x.a, x.density)
		if x.wanted != api.OK {
			wantError(t, "Hydrostatics", x.wanted, e, h)
		}
		want(t, "the error of Hydrostatics", e, x.wanted)
	}
	thin := barge()
	thin.Stations[0].Halves[0] = 0
	h, e := hull.Hydrostatics(thin, at("2000", "0"), 1000)
	wantError(t, "Hydrostatics of nothing", api.ErrNone, e, h)
}

// secondHydro follows the definitions with fractions of math/big.
func secondHydro(t *testing.T, s api.Ship, a api.Attitude, density int) (api.Hydro, api.Errno) {
	sink, slope := bigOf(t, exact.AddRat(a.Sink, api.Rat{})), bigOf(t, exact.AddRat(a.Slope, api.Rat{}))
	volume, x, z := new(big.Rat), new(big.Rat), new(big.Rat)
	area, float, cross, long := new(big.Rat), new(big.Rat), new(big.Rat), new(big.Rat)
	var halves []*big.Rat
	for _, c := range s.Stations {
		y := plus(sink, by(slope, big.NewRat(int64(c.X), 1)))
		width, half := big.NewRat(int64(c.Width), 1), new(big.Rat)
		for k := range c.Halves {
			low, high := big.NewRat(int64(c.Levels[k]), 1), big.NewRat(int64(c.Levels[k+1]), 1)
			h := big.NewRat(int64(c.Halves[k]), 1)
			if y.Cmp(low) >= 0 && y.Cmp(high) < 0 {
				half, high = h, y
			}
			if y.Cmp(low) > 0 {
				part := by(big.NewRat(2, 1), h, width, plus(high, by(big.NewRat(-1, 1), low)))
				volume = plus(volume, part)
				x = plus(x, by(part, big.NewRat(int64(c.X), 1)))
				z = plus(z, by(part, plus(high, low), big.NewRat(1, 2)))
			}
		}
		halves = append(halves, half)
		area = plus(area, by(big.NewRat(2, 1), half, width))
		float = plus(float, by(big.NewRat(2, 1), half, width, big.NewRat(int64(c.X), 1)))
		cross = plus(cross, by(big.NewRat(2, 3), half, half, half, width))
	}
	if volume.Sign() == 0 {
		return api.Hydro{}, api.ErrNone
	}
	if area.Sign() > 0 {
		float = by(float, new(big.Rat).Inv(area))
	}
	for i, c := range s.Stations {
		off := plus(big.NewRat(int64(c.X), 1), by(big.NewRat(-1, 1), float))
		long = plus(long, by(big.NewRat(int64(2*c.Width), 1), halves[i], off, off))
	}
	per := new(big.Rat).Inv(volume)
	meta := plus(by(z, per), by(cross, per))
	return api.Hydro{
		Volume: ofBig(volume), Displacement: ofBig(by(volume, big.NewRat(int64(density), 1000000000))),
		X: ofBig(by(x, per)), Z: ofBig(by(z, per)),
		Area: ofBig(area), Float: ofBig(float), Cross: ofBig(cross), Long: ofBig(long), Meta: ofBig(meta),
	}, api.OK
}

func by(l ...*big.Rat) *big.Rat {
	p := big.NewRat(1, 1)
	for _, f := range l {
		p.Mul(p, f)
	}
	return p
}

func plus(a, b *big.Rat) *big.Rat { return new(big.Rat).Add(a, b) }

func TestHydrostaticsAgainstASecondOpinion(t *testing.T) {
	r := rand.New(rand.NewSource(22))
	seen := 0
	for range 1500 {
		s, a, density := randomShip(r), randomAttitude(r), 900+r.Intn(201)
		h, e := hull.Hydrostatics(s, oddAt(a), density)
		wanted, f := secondHydro(t, s, a, density)
		want(t, "Hydrostatics", []any{h, e}, []any{wanted, f})
		if e == api.OK {
			seen++
		}
	}
	if seen < 700 {
		t.Errorf("only %d ships float", seen)
	}
}

// greatest has the greatest numbers that Check accepts: products of them are beyond int.
func greatest() api.Ship {
	s := api.Ship{Name: "Great", Length: 1000000}
	for i := range 20 {
		s.Stations = append(s.Stations, api.Station{X: -1000000 + 100000*i, Width: 100000, Levels: []int{0, 100000}, Halves: []int{100000}})
	}
	s.Light = api.Load{Name: "Light", Mass: 1000000000, X: 1000000, Z: 100000, Free: 1000000000}
	for i := range 60 {
		s.Items = append(s.Items, api.Load{Name: "I" + string(rune('A'+i%26)) + string(rune('a'+i/26)), Mass: 1000000000, X: 1000000, Z: 100000, Free: 1000000000})
	}
	return s
}

func TestHydrostaticsOfTheGreatestShip(t *testing.T) {
	for _, a := range []api.Attitude{at("99999", "0"), at("50000", "1/21"), at("1/7", "-1/1000000007")} {
		h, e := hull.Hydrostatics(greatest(), a, 1100)
		wanted, f := secondHydro(t, greatest(), a, 1100)
		want(t, "Hydrostatics", []any{h, e}, []any{wanted, f})
	}
}

func TestTable(t *testing.T) {
	draughts := []int{2000, 1, 3000, math.MaxInt, 2000}
	l, e := hull.Table(barge(), draughts, 1025)
	want(t, "the error of Table", []any{len(l), e}, []any{5, api.OK})
	for i, h := range l {
		alone, _ := hull.Hydrostatics(barge(), api.Attitude{Sink: exact.Whole(exact.Of(draughts[i]))}, 1025)
		want(t, "Table", h, alone)
	}
	l, e = hull.Table(barge(), nil, 1000)
	want(t, "Table without draughts", []any{len(l), e}, []any{0, api.OK})
	l, e = hull.Table(barge(), nil, 899)
	wantError(t, "Table at a density", api.ErrRange, e, l)
	many := make([]int, 101)
	for i := range many {
		many[i] = i + 1
	}
	l, e = hull.Table(barge(), many[:100], 1000)
	want(t, "Table of 100", []any{len(l), e}, []any{100, api.OK})
	l, e = hull.Table(barge(), many, 1000)
	wantError(t, "Table of 101", api.ErrLarge, e, l)
	l, e = hull.Table(barge(), many, 1101)
	wantError(t, "the density first", api.ErrRange, e, l)
	l, e = hull.Table(barge(), make([]int, 101), 1000)
	wantError(t, "their number first", api.ErrLarge, e, l)
	for _, d := range []int{0, -1, math.MinInt} {
		l, e = hull.Table(barge(), []int{2000, d, 1000}, 1000)
		wantError(t, "Table above the water", api.ErrNone, e, l)
		l, e = hull.Table(barge(), []int{2000, d}, 1000)
		wantError(t, "Table above the water at the end", api.ErrNone, e, l)
	}
}

func TestDraught(t *testing.T) {
	for _, x := range []struct {
		mass, density int
		wanted        string
	}{
		{320000, 1000, "2000"}, {480000, 1000, "3000"}, {1, 1000, "1/160"}, {1, 1025, "1/164"}, {320001, 1000, "320001/160"}, {528000, 1100, "3000"},
	} {
		y, e := hull.Draught(barge(), x.mass, x.density)
		want(t, "Draught", []any{y, e}, []any{num(x.wanted), api.OK})
	}
	for _, x := range []struct {
		mass, density int
		wanted        api.Errno
	}{
		{480001, 1000, api.ErrSink}, {1000000000, 1000, api.ErrSink}, {528001, 1100, api.ErrSink},
		{0, 1000, api.ErrRange}, {-1, 1000, api.ErrRange}, {1000000001, 1000, api.ErrRange},
		{320000, 899, api.ErrRange}, {320000, 1101, api.ErrRange}, {480001, 899, api.ErrRange},
	} {
		y, e := hull.Draught(barge(), x.mass, x.density)
		wantError(t, "Draught", x.wanted, e, y)
	}
	great := greatest()
	y, e := hull.Draught(great, 1000000000, 1000)
	want(t, "Draught of the greatest ship", []any{y, e}, []any{num("2500"), api.OK})
	thin := barge()
	thin.Stations[0].Halves[0] = 0
	y, e = hull.Draught(thin, 1, 1000)
	wantError(t, "Draught of a ship without breadth", api.ErrSink, e, y)
}

// Where the water rises along a strip without breadth the displacement stays, and the least height counts.
func TestLeastDraught(t *testing.T) {
	s := barge()
	s.Stations[0] = api.Station{X: 1, Width: 1000, Levels: []int{100, 200, 300, 400}, Halves: []int{500, 0, 500}}
	for _, x := range []struct {
		mass   int
		wanted string
	}{{1, "101"}, {99, "199"}, {100, "200"}, {101, "301"}, {200, "400"}} {
		y, e := hull.Draught(s, x.mass, 1000)
		want(t, "Draught", []any{y, e}, []any{num(x.wanted), api.OK})
	}
	s.Stations = append(s.Stations, api.Station{X: 5000, Width: 1000, Levels: []int{150, 250}, Halves: []int{500}})
	for _, x := range []struct {
		mass   int
		wanted string
	}{{50, "150"}, {51, "301/2"}, {150, "200"}, {200, "250"}, {201, "301"}} {
		y, e := hull.Draught(s, x.mass, 1000)
		want(t, "Draught of two strips", []any{y, e}, []any{num(x.wanted), api.OK})
	}
}

func TestDraughtDisplacesTheMass(t *testing.T) {
	r := rand.New(rand.NewSource(23))
	seen := 0
	for range 700 {
		s, mass, density := randomShip(r), 1+r.Intn(6000), 900+r.Intn(201)
		y, e := hull.Draught(s, mass, density)
		deep, f := hull.Hydrostatics(s, at("100000", "0"), density)
		whole := exact.Whole(exact.Of(mass))
		if f != api.OK || exact.CmpRat(deep.Displacement, whole) < 0 {
			wantError(t, "Draught", api.ErrSink, e, y)
			continue
		}
		seen++
		h, f := hull.Hydrostatics(s, api.Attitude{Sink: y}, density)
		want(t, "the displacement at Draught", []any{h.Displacement, e, f}, []any{whole, api.OK, api.OK})
		less, _ := hull.Hydrostatics(s, api.Attitude{Sink: exact.SubRat(y, num("1/1000000"))}, density)
		want(t, "less water displaces less", exact.CmpRat(less.Displacement, whole), -1)
	}
	if seen < 200 {
		t.Errorf("only %d ships have a draught", seen)
	}
}

func TestSupports(t *testing.T) {
	l, e := hull.Supports(tug(), 1025)
	support := func(x int, starts []int, slopes ...string) api.Support {
		return api.Support{X: x, C: num("0"), Curve: api.Curve{Starts: starts, Slopes: nums(slopes...)}}
	}
	want(t, "Supports", []any{l, e}, []any{[]api.Support{
		support(-500, []int{100, 1000, 2500}, "41041/20000", "123123/40000", "0"),
		support(501, []int{0, 700, 900, 3000}, "41041/10000", "0", "943943/200000", "0"),
		support(12000, []int{50, 3100}, "41", "0"),
	}, api.OK})
	// no level is left out where the breadth stays the same, or where there is none
	s := barge()
	s.Stations[0] = api.Station{X: 3, Width: 5, Levels: []int{1, 2, 3, 4}, Halves: []int{0, 100000, 100000}}
	l, e = hull.Supports(s, 1000)
	want(t, "Supports", []any{l, e}, []any{[]api.Support{support(3, []int{1, 2, 3, 4}, "0", "1", "1", "0")}, api.OK})
	for _, density := range []int{899, 1101, 0, -1000} {
		l, e = hull.Supports(s, density)
		wantError(t, "Supports at a density", api.ErrRange, e, l)
	}
	for _, density := range []int{900, 1100} {
		l, e = hull.Supports(greatest(), density)
		want(t, "Supports of the greatest ship", []any{len(l), e}, []any{20, api.OK})
		slope := exact.Whole(exact.Of(20 * density))
		want(t, "its slopes", l[19].Curve.Slopes, []api.Rat{slope, num("0")})
	}
}
