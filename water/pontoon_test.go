package water_test

import (
	"fmt"
	"math"
	"math/big"
	"math/rand"
	"slices"
	"testing"

	"keelblock/api"
	"keelblock/water"
)

// floatingDock is that of the chapter's sixth example.
func floatingDock() api.Pontoon {
	return api.Pontoon{
		Length: 100000, Breadth: 20000, Density: 1000,
		Masses: []api.PointMass{{Mass: 2000000}},
		Tanks:  []api.Tank{{Name: "Fore", X: 40000, Steps: 4, Mass: 100000}, {Name: "Aft", X: -40000, Steps: 4, Mass: 100000}},
	}
}

// wide are limits that the floating dock keeps in all its states.
func wide() api.Limits {
	return api.Limits{DraughtMost: 1000000, TrimMost: 1000, HeelMost: 1000, HogMost: 1000000000000000000}
}

func steps(l ...int) []int { return l }

// P5.6

// A pontoonChange makes the floating dock right or wrong.
type pontoonChange struct {
	what string
	do   func(p *api.Pontoon)
	e    api.Errno
}

func changedPontoon(c pontoonChange) api.Pontoon {
	p := floatingDock()
	c.do(&p)
	return p
}

func tank(i int, do func(t *api.Tank)) func(p *api.Pontoon) {
	return func(p *api.Pontoon) { do(&p.Tanks[i]) }
}

func mass(x, y, kilograms int) func(p *api.Pontoon) {
	return func(p *api.Pontoon) {
		p.Masses = append(p.Masses, api.PointMass{X: x, Y: y, Mass: kilograms})
	}
}

func tanks(n int) func(p *api.Pontoon) {
	return func(p *api.Pontoon) {
		p.Tanks = nil
		for i := range n {
			p.Tanks = append(p.Tanks, api.Tank{Name: fmt.Sprint("T", i)})
		}
	}
}

func pontoonChanges() []pontoonChange {
	return slices.Concat(boxChanges(), massChanges(), tankChanges())
}

func boxChanges() []pontoonChange {
	return []pontoonChange{
		{"nothing", func(p *api.Pontoon) {}, api.OK},
		{"Length", func(p *api.Pontoon) { p.Length = 0 }, api.ErrRange},
		{"Length", func(p *api.Pontoon) { p.Length = 1 }, api.OK},
		{"Length", func(p *api.Pontoon) { p.Length = 1000000 }, api.OK},
		{"Length", func(p *api.Pontoon) { p.Length = 1000001 }, api.ErrRange},
		{"Breadth", func(p *api.Pontoon) { p.Breadth = 0 }, api.ErrRange},
		{"Breadth", func(p *api.Pontoon) { p.Breadth = 1 }, api.OK},
		{"Breadth", func(p *api.Pontoon) { p.Breadth = 1000000 }, api.OK},
		{"Breadth", func(p *api.Pontoon) { p.Breadth = 1000001 }, api.ErrRange},
		{"Density", func(p *api.Pontoon) { p.Density = 899 }, api.ErrRange},
		{"Density", func(p *api.Pontoon) { p.Density = 900 }, api.OK},
		{"Density", func(p *api.Pontoon) { p.Density = 1100 }, api.OK},
		{"Density", func(p *api.Pontoon) { p.Density = 1101 }, api.ErrRange},
		{"the box before the masses", func(p *api.Pontoon) { p.Density, p.Masses = 0, make([]api.PointMass, 21) }, api.ErrRange},
	}
}

func massChanges() []pontoonChange {
	return []pontoonChange{
		{"no masses", func(p *api.Pontoon) { p.Masses = nil }, api.OK},
		{"20 masses", func(p *api.Pontoon) { p.Masses = make([]api.PointMass, 20) }, api.OK},
		{"21 masses", func(p *api.Pontoon) { p.Masses = make([]api.PointMass, 21) }, api.ErrLarge},
		{"21 masses before a wrong one", func(p *api.Pontoon) {
			p.Masses = make([]api.PointMass, 21)
			p.Masses[0].Mass = -1
		}, api.ErrLarge},
		{"X", mass(-1000001, 0, 1), api.ErrRange},
		{"X", mass(-1000000, 0, 1), api.OK},
		{"X", mass(1000000, 0, 1), api.OK},
		{"X", mass(1000001, 0, 1), api.ErrRange},
		{"Y", mass(0, -1000001, 1), api.ErrRange},
		{"Y", mass(0, -1000000, 1), api.OK},
		{"Y", mass(0, 1000000, 1), api.OK},
		{"Y", mass(0, 1000001, 1), api.ErrRange},
		{"Mass", mass(0, 0, -1), api.ErrRange},
		{"Mass", mass(0, 0, 0), api.OK},
		{"Mass", mass(0, 0, 1000000000), api.OK},
		{"Mass", mass(0, 0, 1000000001), api.ErrRange},
		{"the masses before the tanks", func(p *api.Pontoon) { p.Masses[0].X, p.Tanks = math.MinInt, make([]api.Tank, 7) }, api.ErrRange},
	}
}

func tankChanges() []pontoonChange {
	return []pontoonChange{
		{"no tanks", tanks(0), api.OK},
		{"6 tanks", tanks(6), api.OK},
		{"7 tanks", tanks(7), api.ErrLarge},
		{"7 tanks before a wrong one", func(p *api.Pontoon) { p.Tanks = make([]api.Tank, 7) }, api.ErrLarge},
		{"the name of a tank", tank(0, func(x *api.Tank) { x.Name = "" }), api.ErrName},
		{"the name of a tank before its place", tank(1, func(x *api.Tank) { x.Name, x.X = "1", 1000001 }), api.ErrName},
		{"a tank twice", tank(1, func(x *api.Tank) { x.Name = "Fore" }), api.ErrExists},
		{"a tank twice before its place", tank(1, func(x *api.Tank) { x.Name, x.Y = "Fore", 1000001 }), api.ErrExists},
		{"names are not folded", tank(1, func(x *api.Tank) { x.Name = "fore" }), api.OK},
		{"a tank before the name of the next one", func(p *api.Pontoon) { p.Tanks[0].Steps, p.Tanks[1].Name = -1, "" }, api.ErrRange},
		{"X of a tank", tank(0, func(x *api.Tank) { x.X = -1000001 }), api.ErrRange},
		{"X of a tank", tank(0, func(x *api.Tank) { x.X = -1000000 }), api.OK},
		{"X of a tank", tank(1, func(x *api.Tank) { x.X = 1000000 }), api.OK},
		{"X of a tank", tank(1, func(x *api.Tank) { x.X = 1000001 }), api.ErrRange},
		{"Y of a tank", tank(0, func(x *api.Tank) { x.Y = -1000001 }), api.ErrRange},
		{"Y of a tank", tank(0, func(x *api.Tank) { x.Y = -1000000 }), api.OK},
		{"Y of a tank", tank(1, func(x *api.Tank) { x.Y = 1000000 }), api.OK},
		{"Y of a tank", tank(1, func(x *api.Tank) { x.Y = 1000001 }), api.ErrRange},
		{"Steps", tank(0, func(x *api.Tank) { x.Steps = -1 }), api.ErrRange},
		{"Steps", tank(0, func(x *api.Tank) { x.Steps = 0 }), api.OK},
		{"Steps", tank(1, func(x *api.Tank) { x.Steps = 12 }), api.OK},
		{"Steps", tank(1, func(x *api.Tank) { x.Steps = 13 }), api.ErrRange},
		{"Mass of a step", tank(0, func(x *api.Tank) { x.Mass = -1 }), api.ErrRange},
		{"Mass of a step", tank(0, func(x *api.Tank) { x.Mass = 0 }), api.OK},
		{"Mass of a step", tank(1, func(x *api.Tank) { x.Mass = 1000000000 }), api.OK},
		{"Mass of a step", tank(1, func(x *api.Tank) { x.Mass = 1000000001 }), api.ErrRange},
	}
}

func TestCheckPontoon(t *testing.T) {
	for _, c := range pontoonChanges() {
		want(t, c.what, water.CheckPontoon(changedPontoon(c)), c.e)
	}
}

func TestErrorsOfThePontoonComeFirst(t *testing.T) {
	wrong := api.Limits{TrimMost: -1}
	for _, c := range pontoonChanges() {
		if c.e == api.OK {
			continue
		}
		p := changedPontoon(c)
		pose, e := water.Float(p, steps(-1))
		wantError(t, "Float with "+c.what, c.e, e, pose)
		wantLimitsError(t, c.what, c.e, p, wrong)
	}
}

// wantLimitsError demands an error of all functions with limits.
func wantLimitsError(t *testing.T, what string, wanted api.Errno, p api.Pontoon, l api.Limits) {
	t.Helper()
	names, e := water.Broken(p, l, steps(-1))
	wantError(t, "Broken with "+what, wanted, e, names)
	moves, e := water.Ballast(p, l, api.Aim{Start: steps(1)})
	wantError(t, "Ballast with "+what, wanted, e, moves)
	want(t, "CheckBallast with "+what, water.CheckBallast(p, l, api.Aim{Start: steps(1)}, nil), wanted)
	names, e = water.Conflict(p, l)
	wantError(t, "Conflict with "+what, wanted, e, names)
}

func TestErrorsOfLimits(t *testing.T) {
	for _, x := range []struct {
		what string
		do   func(l *api.Limits)
		e    api.Errno
	}{
		{"DraughtLeast", func(l *api.Limits) { l.DraughtLeast = -1 }, api.ErrRange},
		{"DraughtLeast", func(l *api.Limits) { l.DraughtLeast = 1000000 }, api.OK},
		{"DraughtLeast", func(l *api.Limits) { l.DraughtLeast = 1000001 }, api.ErrRange},
		{"DraughtMost", func(l *api.Limits) { l.DraughtMost = -1 }, api.ErrRange},
		{"DraughtMost", func(l *api.Limits) { l.DraughtMost = 0 }, api.OK},
		{"DraughtMost", func(l *api.Limits) { l.DraughtMost = 1000001 }, api.ErrRange},
		{"TrimMost", func(l *api.Limits) { l.TrimMost = -1 }, api.ErrRange},
		{"TrimMost", func(l *api.Limits) { l.TrimMost = 0 }, api.OK},
		{"TrimMost", func(l *api.Limits) { l.TrimMost = 1001 }, api.ErrRange},
		{"HeelMost", func(l *api.Limits) { l.HeelMost = -1 }, api.ErrRange},
		{"HeelMost", func(l *api.Limits) { l.HeelMost = 0 }, api.OK},
		{"HeelMost", func(l *api.Limits) { l.HeelMost = 1001 }, api.ErrRange},
		{"HogMost", func(l *api.Limits) { l.HogMost = -1 }, api.ErrRange},
		{"HogMost", func(l *api.Limits) { l.HogMost = 0 }, api.OK},
		{"HogMost", func(l *api.Limits) { l.HogMost = 1000000000000000001 }, api.ErrRange},
		{"HogMost", func(l *api.Limits) { l.HogMost = math.MaxInt }, api.ErrRange},
	} {
		l := wide()
		x.do(&l)
		if x.e != api.OK {
			wantLimitsError(t, x.what, x.e, floatingDock(), l)
			continue
		}
		_, e := water.Broken(floatingDock(), l, steps(0, 0))
		want(t, x.what, e, api.OK)
	}
}

type stepsCase struct {
	what  string
	steps []int
	e     api.Errno
}

func wrongSteps() []stepsCase {
	return []stepsCase{
		{"no steps", nil, api.ErrShape},
		{"few steps", steps(0), api.ErrShape},
		{"many steps", steps(0, 0, 0), api.ErrShape},
		{"the shape before the range", steps(-1), api.ErrShape},
		{"less than empty", steps(-1, 0), api.ErrRange},
		{"more than full", steps(5, 0), api.ErrRange},
		{"less than empty in the last one", steps(0, math.MinInt), api.ErrRange},
		{"more than full in the last one", steps(0, 5), api.ErrRange},
	}
}

func TestErrorsOfSteps(t *testing.T) {
	for _, x := range wrongSteps() {
		pose, e := water.Float(floatingDock(), x.steps)
		wantError(t, "Float with "+x.what, x.e, e, pose)
		names, e := water.Broken(floatingDock(), wide(), x.steps)
		wantError(t, "Broken with "+x.what, x.e, e, names)
	}
	for _, s := range [][]int{steps(0, 0), steps(4, 4)} {
		_, e := water.Float(floatingDock(), s)
		want(t, "the bounds", e, api.OK)
		_, e = water.Broken(floatingDock(), wide(), s)
		want(t, "the bounds", e, api.OK)
	}
}

func pose(draught, trim, heel, hog string) api.Pose {
	return api.Pose{Draught: num(draught), Trim: num(trim), Heel: num(heel), Hog: num(hog)}
}

func TestFloat(t *testing.T) {
	plain := floatingDock()
	plain.Tanks = nil
	aside := plain
	aside.Masses = []api.PointMass{{X: -30000, Y: 5001, Mass: 1001}, {X: 30000, Y: -5000, Mass: 1000}, {X: 7, Y: 8}}
	for _, x := range []struct {
		what   string
		p      api.Pontoon
		steps  []int
		wanted api.Pose
	}{
		{"example 5", plain, nil, pose("1000", "0", "0", "-25000000000")},
		{"example 6", floatingDock(), steps(0, 0), pose("1000", "0", "0", "-25000000000")},
		{"example 6, a step forward", floatingDock(), steps(1, 0), pose("1050", "3/1250", "0", "-24250000000")},
		{"example 6, a step aft", floatingDock(), steps(0, 1), pose("1050", "-3/1250", "0", "-24250000000")},
		{"example 6, two steps", floatingDock(), steps(1, 1), pose("1100", "0", "0", "-23500000000")},
		{"nothing", api.Pontoon{Length: 1, Breadth: 1, Density: 900}, nil, pose("0", "0", "0", "0")},
		{"masses aside", aside, nil, pose("2001/2000", "-9/500000000", "18003/200000000000", "5002500")},
		{"an eighth", api.Pontoon{Length: 1, Breadth: 1, Density: 1000, Masses: []api.PointMass{{Mass: 1}}}, nil, pose("1000000", "0", "0", "-1/8")},
	} {
		got, e := water.Float(x.p, x.steps)
		want(t, x.what, []any{got, e}, []any{x.wanted, api.OK})
	}
}

// A second pose is one by math/big.
type secondPose struct{ draught, trim, heel, hog *big.Rat }

func secondFloat(p api.Pontoon, steps []int) secondPose {
	m, mx, my, far := new(big.Rat), new(big.Rat), new(big.Rat), new(big.Rat)
	l := slices.Clone(p.Masses)
	for i, x := range p.Tanks {
		l = append(l, api.PointMass{X: x.X, Y: x.Y, Mass: steps[i] * x.Mass})
	}
	for _, x := range l {
		m = plus(m, bigInt(x.Mass))
		mx = plus(mx, mul(bigInt(x.Mass), bigInt(x.X)))
		my = plus(my, mul(bigInt(x.Mass), bigInt(x.Y)))
		far = plus(far, new(big.Rat).Abs(mul(bigInt(x.Mass), bigInt(x.X))))
	}
	length, breadth, density, billion := bigInt(p.Length), bigInt(p.Breadth), bigInt(p.Density), bigInt(1000000000)
	return secondPose{
		draught: quo(mul(billion, m), mul(density, length, breadth)),
		trim:    quo(mul(bigInt(12), billion, mx), mul(density, breadth, length, length, length)),
		heel:    quo(mul(bigInt(12), billion, my), mul(density, length, breadth, breadth, breadth)),
		hog:     minus(quo(far, bigInt(2)), quo(mul(m, length), bigInt(8))),
	}
}

func secondBroken(p api.Pontoon, l api.Limits, steps []int) []string {
	var out []string
	s := secondFloat(p, steps)
	steep := func(x *big.Rat, most int) bool {
		return mul(bigInt(1000), new(big.Rat).Abs(x)).Cmp(bigInt(most)) > 0
	}
	if s.draught.Cmp(bigInt(l.DraughtLeast)) < 0 || s.draught.Cmp(bigInt(l.DraughtMost)) > 0 {
		out = append(out, "draught")
	}
	if steep(s.trim, l.TrimMost) {
		out = append(out, "trim")
	}
	if steep(s.heel, l.HeelMost) {
		out = append(out, "heel")
	}
	if new(big.Rat).Abs(s.hog).Cmp(bigInt(l.HogMost)) > 0 {
		out = append(out, "hog")
	}
	return out
}

// randomPontoon is a cube of a metre with a few kilograms, so that limits are often just kept, or
// just broken: a kilogram is a millimetre of draught in fresh water.
func randomPontoon(r *rand.Rand) api.Pontoon {
	p := api.Pontoon{Length: 1000, Breadth: 1000, Density: 1000}
	if r.Intn(3) == 0 {
		p.Length, p.Breadth, p.Density = between(r, 500, 2000), between(r, 500, 2000), between(r, 900, 1100)
	}
	place := func() int { return 125 * between(r, -4, 4) }
	for range r.Intn(3) {
		p.Masses = append(p.Masses, api.PointMass{X: place(), Y: place(), Mass: r.Intn(5)})
	}
	for i := range r.Intn(4) {
		p.Tanks = append(p.Tanks, api.Tank{Name: fmt.Sprint("T", i), X: place(), Y: place(), Steps: r.Intn(4), Mass: r.Intn(4)})
	}
	return p
}

func randomLimits(r *rand.Rand) api.Limits {
	least := r.Intn(5)
	return api.Limits{DraughtLeast: least, DraughtMost: max(0, least+r.Intn(14)-1), TrimMost: 3 * r.Intn(12), HeelMost: 3 * r.Intn(12), HogMost: 125 * r.Intn(12)}
}

func randomSteps(r *rand.Rand, p api.Pontoon) []int {
	var l []int
	for _, x := range p.Tanks {
		l = append(l, r.Intn(x.Steps+1))
	}
	return l
}

func TestFloatBySecondOpinion(t *testing.T) {
	r := rand.New(rand.NewSource(61))
	for range 500 {
		p := randomPontoon(r)
		s := randomSteps(r, p)
		got, e := water.Float(p, s)
		x := secondFloat(p, s)
		want(t, "the pose", []any{got, e}, []any{api.Pose{Draught: ofBig(x.draught), Trim: ofBig(x.trim), Heel: ofBig(x.heel), Hog: ofBig(x.hog)}, api.OK})
	}
}

func TestBroken(t *testing.T) {
	// draught 1150, 1000 trim 12/5, no heel, hog -22750000000 for three steps, of which two are forward
	ahead := steps(2, 1)
	aside := floatingDock()
	aside.Tanks[0].Y = 30000
	for _, x := range []struct {
		what   string
		p      api.Pontoon
		do     func(l *api.Limits)
		wanted []string
	}{
		{"nothing", aside, func(l *api.Limits) {}, nil},
		{"the least draught", floatingDock(), func(l *api.Limits) { l.DraughtLeast = 1150 }, nil},
		{"the least draught", floatingDock(), func(l *api.Limits) { l.DraughtLeast = 1151 }, []string{"draught"}},
		{"the greatest draught", floatingDock(), func(l *api.Limits) { l.DraughtMost = 1150 }, nil},
		{"the greatest draught", floatingDock(), func(l *api.Limits) { l.DraughtMost = 1149 }, []string{"draught"}},
		{"both draughts", floatingDock(), func(l *api.Limits) { l.DraughtLeast, l.DraughtMost = 1150, 1150 }, nil},
		{"no draught", floatingDock(), func(l *api.Limits) { l.DraughtLeast, l.DraughtMost = 1150, 1149 }, []string{"draught"}},
		{"no draught", floatingDock(), func(l *api.Limits) { l.DraughtLeast, l.DraughtMost = 1151, 1150 }, []string{"draught"}},
		{"trim", floatingDock(), func(l *api.Limits) { l.TrimMost = 3 }, nil},
		{"trim", floatingDock(), func(l *api.Limits) { l.TrimMost = 2 }, []string{"trim"}},
		{"no heel", floatingDock(), func(l *api.Limits) { l.HeelMost = 0 }, nil},
		{"heel", aside, func(l *api.Limits) { l.HeelMost = 90 }, nil},
		{"heel", aside, func(l *api.Limits) { l.HeelMost = 89 }, []string{"heel"}},
		{"hog", floatingDock(), func(l *api.Limits) { l.HogMost = 22750000000 }, nil},
		{"hog", floatingDock(), func(l *api.Limits) { l.HogMost = 22749999999 }, []string{"hog"}},
		{"all", aside, func(l *api.Limits) { *l = api.Limits{} }, []string{"draught", "trim", "heel", "hog"}},
	} {
		l := wide()
		x.do(&l)
		names, e := water.Broken(x.p, l, ahead)
		want(t, x.what, []any{names, e}, []any{x.wanted, api.OK})
	}
}

// A limit of an eighth more or less than an integer, and both signs of each slope and of the hog.
func TestBrokenOnBothSides(t *testing.T) {
	cube := api.Pontoon{Length: 1000, Breadth: 1000, Density: 1000}
	for _, x := range []struct {
		what   string
		masses []api.PointMass
		do     func(l *api.Limits)
		wanted []string
	}{
		{"trim forward", []api.PointMass{{X: 250, Mass: 1}}, func(l *api.Limits) { l.TrimMost = 3 }, nil},
		{"trim aft", []api.PointMass{{X: -250, Mass: 1}}, func(l *api.Limits) { l.TrimMost = 3 }, nil},
		{"more trim forward", []api.PointMass{{X: 251, Mass: 1}}, func(l *api.Limits) { l.TrimMost = 3 }, []string{"trim"}},
		{"more trim aft", []api.PointMass{{X: -251, Mass: 1}}, func(l *api.Limits) { l.TrimMost = 3 }, []string{"trim"}},
		{"heel to port", []api.PointMass{{Y: 250, Mass: 1}}, func(l *api.Limits) { l.HeelMost = 3 }, nil},
		{"heel to starboard", []api.PointMass{{Y: -250, Mass: 1}}, func(l *api.Limits) { l.HeelMost = 3 }, nil},
		{"more heel to port", []api.PointMass{{Y: 251, Mass: 1}}, func(l *api.Limits) { l.HeelMost = 3 }, []string{"heel"}},
		{"more heel to starboard", []api.PointMass{{Y: -251, Mass: 1}}, func(l *api.Limits) { l.HeelMost = 3 }, []string{"heel"}},
		{"sagging", []api.PointMass{{Mass: 8}}, func(l *api.Limits) { l.HogMost = 1000 }, nil},
		{"more sagging", []api.PointMass{{Mass: 8}}, func(l *api.Limits) { l.HogMost = 999 }, []string{"hog"}},
		{"hogging", []api.PointMass{{X: 500, Mass: 4}, {X: -500, Mass: 4}}, func(l *api.Limits) { l.HogMost = 1000 }, nil},
		{"more hogging", []api.PointMass{{X: 500, Mass: 4}, {X: -500, Mass: 4}}, func(l *api.Limits) { l.HogMost = 999 }, []string{"hog"}},
		{"hogging by a half", []api.PointMass{{X: 251, Mass: 1}}, func(l *api.Limits) { l.HogMost = 0 }, []string{"hog"}},
		{"no hogging", []api.PointMass{{X: 250, Mass: 1}}, func(l *api.Limits) { l.HogMost = 0 }, nil},
		{"sagging by a half", []api.PointMass{{X: 249, Mass: 1}}, func(l *api.Limits) { l.HogMost = 0 }, []string{"hog"}},
	} {
		p, l := cube, wide()
		p.Masses = x.masses
		x.do(&l)
		names, e := water.Broken(p, l, nil)
		want(t, x.what, []any{names, e}, []any{x.wanted, api.OK})
	}
	// a draught between two millimetres
	cube.Density, cube.Masses = 900, []api.PointMass{{Mass: 1}}
	for _, x := range []struct {
		least, most int
		wanted      []string
	}{{1, 2, nil}, {1, 1, []string{"draught"}}, {2, 2, []string{"draught"}}, {0, 1000000, nil}} {
		l := wide()
		l.DraughtLeast, l.DraughtMost = x.least, x.most
		names, e := water.Broken(cube, l, nil)
		want(t, "a draught of 10/9", []any{names, e}, []any{x.wanted, api.OK})
	}
}

func TestBrokenBySecondOpinion(t *testing.T) {
	r := rand.New(rand.NewSource(62))
	count := map[string]int{}
	for range 4000 {
		p, l := randomPontoon(r), randomLimits(r)
		s := randomSteps(r, p)
		wanted := secondBroken(p, l, s)
		names, e := water.Broken(p, l, s)
		want(t, "the limits", []any{names, e}, []any{wanted, api.OK})
		for _, name := range append(wanted, fmt.Sprint(len(wanted))) {
			count[name]++
		}
	}
	for _, name := range []string{"draught", "trim", "heel", "hog", "0", "4"} {
		if count[name] < 30 {
			t.Errorf("only %v", count)
		}
	}
}

// heaviest has the greatest numbers of all, at one end and on one side, or at both.
func heaviest(x, other int) api.Pontoon {
	p := api.Pontoon{Length: 1000000, Breadth: 1000000, Density: 1100}
	for i := range 20 {
		at := []int{x, other}[i%2]
		p.Masses = append(p.Masses, api.PointMass{X: at, Y: at, Mass: 1000000000})
	}
	for i := range 6 {
		at := []int{x, other}[i%2]
		p.Tanks = append(p.Tanks, api.Tank{Name: fmt.Sprint("T", i), X: at, Y: at, Steps: 12, Mass: 1000000000})
	}
	return p
}

func TestTheGreatestNumbers(t *testing.T) {
	full := steps(12, 12, 12, 12, 12, 12)
	for _, p := range []api.Pontoon{heaviest(1000000, 1000000), heaviest(-1000000, -1000000), heaviest(1000000, -1000000), heaviest(0, 0)} {
		for _, size := range []int{1, 1000, 1000000} {
			p.Length, p.Breadth = size, size
			x := secondFloat(p, full)
			got, e := water.Float(p, full)
			want(t, "the pose", []any{got, e}, []any{api.Pose{Draught: ofBig(x.draught), Trim: ofBig(x.trim), Heel: ofBig(x.heel), Hog: ofBig(x.hog)}, api.OK})
			for _, l := range []api.Limits{wide(), {}, {DraughtLeast: 1000000, DraughtMost: 1000000}, {DraughtMost: 83636, TrimMost: 1000, HeelMost: 999, HogMost: 1000000000000}} {
				names, e := water.Broken(p, l, full)
				want(t, "the limits", []any{names, e}, []any{secondBroken(p, l, full), api.OK})
			}
		}
	}
}
