package water_test

import (
	"fmt"
	"math"
	"math/rand"
	"slices"
	"testing"

	"keelblock/api"
	"keelblock/water"
)

// P5.7

func fill(tank int) api.Move { return api.Move{Tank: tank, Up: true} }

func empty(tank int) api.Move { return api.Move{Tank: tank} }

func moves(l ...api.Move) []api.Move { return l }

func aim(least, most int, start ...int) api.Aim {
	return api.Aim{Start: start, DraughtLeast: least, DraughtMost: most}
}

func trimmed(most int) api.Limits {
	l := wide()
	l.TrimMost = most
	return l
}

// sized has tanks in its middle, with so many steps.
func sized(l ...int) api.Pontoon {
	p := api.Pontoon{Length: 1000, Breadth: 1000, Density: 1000}
	for i, n := range l {
		p.Tanks = append(p.Tanks, api.Tank{Name: fmt.Sprint("T", i), Steps: n, Mass: 1})
	}
	return p
}

// uneven has tanks with steps of different masses.
func uneven(steps []int, masses ...int) api.Pontoon {
	p := sized(steps...)
	for i, m := range masses {
		p.Tanks[i].Mass = m
	}
	return p
}

func draughts(least, most int) api.Limits {
	l := wide()
	l.DraughtLeast, l.DraughtMost = least, most
	return l
}

// A ballasting is a search with its result.
type ballasting struct {
	what   string
	p      api.Pontoon
	l      api.Limits
	a      api.Aim
	wanted []api.Move
	e      api.Errno
}

func ballastings() []ballasting {
	three := uneven(steps(3, 3, 3), 2, 1, 0)
	return []ballasting{
		{"example 6", floatingDock(), trimmed(3), aim(1100, 1200, 0, 0), moves(fill(0), fill(1)), api.OK},
		{"example 6, too steep", floatingDock(), trimmed(2), aim(1100, 1200, 0, 0), nil, api.ErrNone},
		{"already there", floatingDock(), trimmed(2), aim(1000, 1000, 0, 0), nil, api.OK},
		{"the least draught of the aim", floatingDock(), wide(), aim(1051, 1150, 0, 0), moves(fill(0), fill(0)), api.OK},
		{"the greatest draught of the aim", floatingDock(), wide(), aim(0, 1099, 2, 1), moves(empty(0), empty(0)), api.OK},
		{"by turns", floatingDock(), trimmed(3), aim(1000, 1000, 2, 2), moves(empty(0), empty(1), empty(0), empty(1)), api.OK},
		{"no draught", floatingDock(), wide(), aim(1100, 1099, 2, 2), nil, api.ErrNone},
		{"too deep", floatingDock(), wide(), aim(1401, 2000, 0, 0), nil, api.ErrNone},
		{"full", floatingDock(), wide(), aim(1400, 2000, 3, 4), moves(fill(0)), api.OK},
		{"the heavier tank first", three, wide(), aim(5, 5, 0, 0, 0), moves(fill(0), fill(0), fill(1)), api.OK},
		{"the fewest moves", three, wide(), aim(4, 4, 0, 0, 0), moves(fill(0), fill(0)), api.OK},
		{"a later tank, but fewer moves", three, wide(), aim(3, 3, 1, 0, 0), moves(fill(1)), api.OK},
		{"the first tank first", three, wide(), aim(5, 5, 3, 0, 0), moves(empty(0), fill(1)), api.OK},
		{"around a limit", three, draughts(5, 7), aim(5, 5, 3, 0, 0), moves(fill(1), empty(0)), api.OK},
		{"no way around a limit", three, draughts(5, 6), aim(5, 5, 3, 0, 0), nil, api.ErrNone},
		{"filling and emptying", three, wide(), aim(6, 6, 1, 3, 0), moves(fill(0), empty(1)), api.OK},
		{"filling before emptying", uneven(steps(2, 1, 1), 2, 1, 3), wide(), aim(4, 4, 1, 1, 0), moves(fill(0), empty(1)), api.OK},
		{"the aim breaks the limits", three, draughts(0, 4), aim(5, 5, 0, 0, 0), nil, api.ErrNone},
		{"no tanks", sized(), wide(), aim(0, 0), nil, api.OK},
		{"no tanks", sized(), wide(), aim(1, 1), nil, api.ErrNone},
		{"tanks without steps", sized(0, 0), wide(), aim(1, 1, 0, 0), nil, api.ErrNone},
		{"a tank without mass stays as it is", three, wide(), aim(1, 1, 0, 0, 1), moves(fill(1)), api.OK},
		{"all tanks", sized(1, 1, 1, 1, 1, 1), wide(), aim(6, 6, 0, 0, 0, 0, 0, 0), moves(fill(0), fill(1), fill(2), fill(3), fill(4), fill(5)), api.OK},
		{"20000 states", sized(9, 9, 9, 9, 1), wide(), aim(37, 37, 9, 9, 9, 9, 0), moves(fill(4)), api.OK},
		{"20000 states, all of them in vain", sized(9, 9, 9, 9, 1), wide(), aim(38, 38, 0, 0, 0, 0, 0), nil, api.ErrNone},
		{"the highest aim", sized(1), wide(), aim(1, 1000000, 0), moves(fill(0)), api.OK},
	}
}

func TestBallast(t *testing.T) {
	for _, x := range ballastings() {
		got, e := water.Ballast(x.p, x.l, x.a)
		want(t, x.what, []any{got, e}, []any{x.wanted, x.e})
		want(t, x.what+": the check", water.CheckBallast(x.p, x.l, x.a, got), x.e)
	}
}

// wantAimError demands an error of both functions with an aim.
func wantAimError(t *testing.T, what string, wanted api.Errno, p api.Pontoon, l api.Limits, a api.Aim) {
	t.Helper()
	got, e := water.Ballast(p, l, a)
	wantError(t, "Ballast with "+what, wanted, e, got)
	want(t, "CheckBallast with "+what, water.CheckBallast(p, l, a, make([]api.Move, 20001)), wanted)
}

func TestErrorsOfAims(t *testing.T) {
	high := draughts(1000000, 1000000)
	for _, x := range wrongSteps() {
		wantAimError(t, x.what, x.e, floatingDock(), high, aim(-1, -1, x.steps...))
	}
	for _, x := range []struct {
		what        string
		least, most int
	}{{"DraughtLeast", -1, 0}, {"DraughtLeast", 1000001, 0}, {"DraughtMost", 0, -1}, {"DraughtMost", 0, 1000001}, {"extreme numbers", math.MinInt, math.MaxInt}} {
		wantAimError(t, x.what, api.ErrRange, floatingDock(), high, aim(x.least, x.most, 0, 0))
	}
	many := sized(3, 4, 6, 10, 12)
	wantAimError(t, "a wrong aim before many states", api.ErrShape, many, wide(), aim(0, 0))
}

// The errors behind that of the aim, in their order.
func TestBallastErrors(t *testing.T) {
	for _, x := range []struct {
		what string
		p    api.Pontoon
		l    api.Limits
		a    api.Aim
		e    api.Errno
	}{
		{"20020 states", sized(3, 4, 6, 10, 12), wide(), aim(0, 0, 0, 0, 0, 0, 0), api.ErrLarge},
		{"all states", sized(12, 12, 12, 12, 12, 12), wide(), aim(0, 0, 0, 0, 0, 0, 0, 0), api.ErrLarge},
		{"many states before a broken limit", sized(3, 4, 6, 10, 12), draughts(1, 9), aim(0, 0, 0, 0, 0, 0, 0), api.ErrLarge},
		{"a broken limit", sized(3), draughts(1, 9), aim(0, 0, 0), api.ErrLimit},
		{"a broken limit, and no such aim", sized(3), draughts(1, 9), aim(7, 7, 0), api.ErrLimit},
		{"limits that no state keeps", sized(3), draughts(2, 1), aim(2, 2, 2), api.ErrLimit},
	} {
		got, e := water.Ballast(x.p, x.l, x.a)
		wantError(t, x.what, x.e, e, got)
	}
}

func TestCheckBallast(t *testing.T) {
	there := slices.Repeat(moves(fill(0), empty(0)), 10000)
	three := sized(2, 3, 0)
	for _, x := range []struct {
		what string
		l    api.Limits
		a    api.Aim
		m    []api.Move
		e    api.Errno
	}{
		{"nothing", wide(), aim(0, 0, 0, 0, 0), nil, api.OK},
		{"nothing, and no aim", wide(), aim(1, 1, 0, 0, 0), nil, api.ErrNone},
		{"more moves than needed", wide(), aim(1, 1, 0, 0, 0), moves(fill(0), fill(0), empty(0)), api.OK},
		{"through the aim", wide(), aim(1, 1, 0, 0, 0), moves(fill(0), fill(1)), api.ErrNone},
		{"above the aim", wide(), aim(1, 1, 0, 0, 0), moves(fill(1), fill(1)), api.ErrNone},
		{"20000 moves", wide(), aim(0, 0, 0, 0, 0), there, api.OK},
		{"20001 moves", wide(), aim(1, 1, 0, 0, 0), append(slices.Clone(there), fill(0)), api.ErrLarge},
		{"20001 moves before a broken limit", draughts(1, 9), aim(1, 1, 0, 0, 0), append(slices.Clone(there), fill(0)), api.ErrLarge},
		{"a broken limit at the start", draughts(1, 9), aim(1, 1, 0, 0, 0), moves(fill(0)), api.ErrLimit},
		{"a broken limit at the start before a wrong move", draughts(1, 9), aim(1, 1, 0, 0, 0), moves(fill(3)), api.ErrLimit},
		{"no such tank", wide(), aim(0, 0, 0, 0, 0), moves(fill(-1)), api.ErrRange},
		{"no such tank", wide(), aim(0, 0, 0, 0, 0), moves(fill(3)), api.ErrRange},
		{"no such tank", wide(), aim(0, 0, 0, 0, 0), moves(empty(math.MaxInt)), api.ErrRange},
		{"emptier than empty", wide(), aim(0, 0, 0, 0, 0), moves(empty(0)), api.ErrRange},
		{"fuller than full", wide(), aim(3, 3, 2, 0, 0), moves(fill(0)), api.ErrRange},
		{"fuller than full in the end", wide(), aim(4, 4, 0, 2, 0), moves(fill(1), fill(1)), api.ErrRange},
		{"a tank without steps", wide(), aim(0, 9, 0, 0, 0), moves(fill(2)), api.ErrRange},
		{"a broken limit on the way", draughts(0, 2), aim(2, 2, 2, 0, 0), moves(fill(1), empty(0)), api.ErrLimit},
		{"a limit that is kept on the way", draughts(0, 2), aim(2, 2, 2, 0, 0), moves(empty(0), fill(1)), api.OK},
		{"a broken limit in the end", draughts(0, 2), aim(3, 3, 2, 0, 0), moves(fill(1)), api.ErrLimit},
		{"a broken limit before a wrong move", draughts(0, 2), aim(2, 2, 2, 0, 0), moves(fill(1), fill(5)), api.ErrLimit},
		{"a wrong move before a broken limit", draughts(0, 2), aim(2, 2, 2, 0, 0), moves(fill(0), fill(1)), api.ErrRange},
		{"a wrong move before no aim", wide(), aim(9, 9, 2, 0, 0), moves(fill(0)), api.ErrRange},
	} {
		want(t, x.what, water.CheckBallast(three, x.l, x.a, x.m), x.e)
	}
	many := sized(3, 4, 6, 10, 12, 12)
	want(t, "many states", water.CheckBallast(many, wide(), aim(2, 2, 0, 0, 0, 0, 0, 0), moves(fill(4), fill(5))), api.OK)
}

// after is the steps after a move, if it is possible.
func after(p api.Pontoon, s []int, m api.Move) ([]int, bool) {
	next := slices.Clone(s)
	if m.Tank < 0 || m.Tank >= len(s) {
		return nil, false
	}
	if m.Up {
		next[m.Tank]++
	} else {
		next[m.Tank]--
	}
	return next, next[m.Tank] >= 0 && next[m.Tank] <= p.Tanks[m.Tank].Steps
}

// allSteps are all states of the tanks.
func allSteps(p api.Pontoon) [][]int {
	all := [][]int{nil}
	for _, x := range p.Tanks {
		var longer [][]int
		for _, s := range all {
			for n := range x.Steps + 1 {
				longer = append(longer, append(slices.Clone(s), n))
			}
		}
		all = longer
	}
	return all
}

func aimedAt(p api.Pontoon, a api.Aim, s []int) bool {
	d := secondFloat(p, s).draught
	return d.Cmp(bigInt(a.DraughtLeast)) >= 0 && d.Cmp(bigInt(a.DraughtMost)) <= 0
}

// secondBallast finds how far all states are from the aim, and then goes nearer by the first move
// that does so.
func secondBallast(p api.Pontoon, l api.Limits, a api.Aim) ([]api.Move, api.Errno) {
	far := map[string]int{} // from the aim, of the states that keep all limits and from which it is reached
	kept := map[string]bool{}
	for _, s := range allSteps(p) {
		kept[fmt.Sprint(s)] = len(secondBroken(p, l, s)) == 0
		if kept[fmt.Sprint(s)] && aimedAt(p, a, s) {
			far[fmt.Sprint(s)] = 0
		}
	}
	var l2 []api.Move
	for i := range p.Tanks {
		l2 = append(l2, fill(i), empty(i))
	}
	if !kept[fmt.Sprint(a.Start)] {
		return nil, api.ErrLimit
	}
	for distance := 0; ; distance++ {
		more := false
		for _, s := range allSteps(p) {
			if _, known := far[fmt.Sprint(s)]; known || !kept[fmt.Sprint(s)] {
				continue
			}
			for _, m := range l2 {
				next, can := after(p, s, m)
				if d, known := far[fmt.Sprint(next)]; can && known && d == distance {
					far[fmt.Sprint(s)] = distance + 1
					more = true
					break
				}
			}
		}
		if !more {
			break
		}
	}
	left, reached := far[fmt.Sprint(a.Start)]
	if !reached {
		return nil, api.ErrNone
	}
	var out []api.Move
	for s := a.Start; left > 0; left-- {
		for _, m := range l2 {
			next, can := after(p, s, m)
			if d, known := far[fmt.Sprint(next)]; can && known && d == left-1 {
				out = append(out, m)
				s = next
				break
			}
		}
	}
	return out, api.OK
}

func TestBallastBySecondOpinion(t *testing.T) {
	r := rand.New(rand.NewSource(63))
	count := map[int]int{}
	for range 700 {
		p, l := randomPontoon(r), randomLimits(r)
		p.Tanks = append(p.Tanks, api.Tank{Name: "More", X: 125 * between(r, -4, 4), Steps: 4, Mass: between(r, 1, 2)})
		l.DraughtMost += 8
		l.TrimMost, l.HeelMost, l.HogMost = l.TrimMost*4, l.HeelMost*4, l.HogMost*4
		a := aim(r.Intn(14), 0, randomSteps(r, p)...)
		a.DraughtMost = a.DraughtLeast + r.Intn(3)
		for range 9 {
			if len(secondBroken(p, l, a.Start)) > 0 {
				a.Start = randomSteps(r, p)
			}
		}
		wanted, e := secondBallast(p, l, a)
		got, e2 := water.Ballast(p, l, a)
		want(t, "the moves", []any{got, e2}, []any{wanted, e})
		want(t, "the check", water.CheckBallast(p, l, a, got), e)
		if e == api.OK {
			count[len(got)]++
		} else {
			count[-int(e)]++
		}
	}
	for _, n := range []int{0, 1, 2, 3, -int(api.ErrLimit), -int(api.ErrNone)} {
		if count[n] < 20 {
			t.Errorf("only %v", count)
		}
	}
}

// secondCheck goes through the moves in the words of the chapter.
func secondCheck(p api.Pontoon, l api.Limits, a api.Aim, m []api.Move) api.Errno {
	s := a.Start
	if len(secondBroken(p, l, s)) > 0 {
		return api.ErrLimit
	}
	for _, x := range m {
		next, can := after(p, s, x)
		if !can {
			return api.ErrRange
		}
		if len(secondBroken(p, l, next)) > 0 {
			return api.ErrLimit
		}
		s = next
	}
	if !aimedAt(p, a, s) {
		return api.ErrNone
	}
	return api.OK
}

// With the last consequence but one of P5.9: no accepted list is shorter than that of Ballast.
func TestCheckBallastBySecondOpinion(t *testing.T) {
	r := rand.New(rand.NewSource(64))
	count := map[api.Errno]int{}
	for range 4000 {
		p, l := randomPontoon(r), randomLimits(r)
		l.DraughtMost += 6
		l.TrimMost, l.HeelMost, l.HogMost = l.TrimMost*4, l.HeelMost*4, l.HogMost*4
		a := aim(r.Intn(4), 3+r.Intn(9), randomSteps(r, p)...)
		var m []api.Move
		for range r.Intn(5) {
			m = append(m, api.Move{Tank: r.Intn(len(p.Tanks) + 1), Up: r.Intn(2) == 0})
		}
		e := water.CheckBallast(p, l, a, m)
		want(t, "the check", e, secondCheck(p, l, a, m))
		count[e]++
		if e == api.OK {
			best, e := water.Ballast(p, l, a)
			want(t, "a shorter list", []any{len(best) > len(m), e}, []any{false, api.OK})
		}
	}
	for _, e := range []api.Errno{api.OK, api.ErrRange, api.ErrLimit, api.ErrNone} {
		if count[e] < 50 {
			t.Errorf("only %v", count)
		}
	}
}

// P5.8

func TestConflict(t *testing.T) {
	aside := uneven(steps(2), 3)
	aside.Tanks[0].X, aside.Tanks[0].Y = 100, 100 // 3.6 in a metre each way, for each step
	aside.Masses = []api.PointMass{{Mass: 1}}
	for _, x := range []struct {
		what   string
		p      api.Pontoon
		l      api.Limits
		wanted []string
	}{
		{"none", floatingDock(), wide(), nil},
		{"none in one state", floatingDock(), api.Limits{DraughtLeast: 1400, DraughtMost: 1400, HogMost: 19000000000}, nil},
		{"the draught by itself", floatingDock(), draughts(1401, 2000), []string{"draught"}},
		{"the draught by itself", floatingDock(), draughts(1060, 1050), []string{"draught"}},
		{"the hog by itself", floatingDock(), api.Limits{DraughtMost: 1000000, HogMost: 18999999999}, []string{"hog"}},
		{"draught and hog", floatingDock(), api.Limits{DraughtMost: 1399, HogMost: 19000000000}, []string{"draught", "hog"}},
		{"draught and trim", aside, api.Limits{DraughtLeast: 4, DraughtMost: 4, TrimMost: 3, HeelMost: 1000, HogMost: 1000000}, []string{"draught", "trim"}},
		{"draught and heel", aside, api.Limits{DraughtLeast: 4, DraughtMost: 4, TrimMost: 4, HeelMost: 3, HogMost: 1000000}, []string{"draught", "heel"}},
		{"draught and trim or heel", aside, api.Limits{DraughtLeast: 4, DraughtMost: 4, TrimMost: 3, HeelMost: 3, HogMost: 1000000}, []string{"draught", "trim"}},
		{"draught by itself, whatever the others", aside, api.Limits{DraughtLeast: 2, DraughtMost: 3}, []string{"draught"}},
		{"no tanks", sized(), draughts(1, 2), []string{"draught"}},
		{"no tanks", sized(), api.Limits{}, nil},
		{"20000 states", sized(9, 9, 9, 9, 1), draughts(37, 37), nil},
		{"20000 states", sized(9, 9, 9, 9, 1), draughts(38, 38), []string{"draught"}},
	} {
		names, e := water.Conflict(x.p, x.l)
		want(t, x.what, []any{names, e}, []any{x.wanted, api.OK})
	}
	for _, p := range []api.Pontoon{sized(3, 4, 6, 10, 12), sized(12, 12, 12, 12, 12, 12)} {
		names, e := water.Conflict(p, wide())
		wantError(t, "many states", api.ErrLarge, e, names)
	}
}

// secondConflict leaves names out in the words of the chapter.
func secondConflict(p api.Pontoon, l api.Limits) []string {
	kept := func(names []string) bool {
		return slices.ContainsFunc(allSteps(p), func(s []int) bool {
			return !slices.ContainsFunc(secondBroken(p, l, s), func(name string) bool { return slices.Contains(names, name) })
		})
	}
	rest := []string{"draught", "trim", "heel", "hog"}
	if kept(rest) {
		return nil
	}
	for _, name := range []string{"hog", "heel", "trim", "draught"} {
		others := slices.DeleteFunc(slices.Clone(rest), func(o string) bool { return o == name })
		if !kept(others) {
			rest = others
		}
	}
	// P5.9: without one of them some state keeps the others
	for i := range rest {
		if !kept(slices.Delete(slices.Clone(rest), i, i+1)) {
			panic("no core")
		}
	}
	return rest
}

func TestConflictBySecondOpinion(t *testing.T) {
	r := rand.New(rand.NewSource(65))
	count := map[string]int{}
	for range 4000 {
		p, l := randomPontoon(r), randomLimits(r)
		wanted := secondConflict(p, l)
		names, e := water.Conflict(p, l)
		want(t, "the conflict", []any{names, e}, []any{wanted, api.OK})
		count[fmt.Sprint(names)]++
	}
	for _, names := range []string{"[]", "[draught]", "[trim]", "[heel]", "[hog]", "[draught trim]", "[draught heel]", "[draught hog]", "[trim heel]", "[trim hog]", "[heel hog]"} {
		if count[names] < 3 {
			t.Errorf("only %v", count)
		}
	}
}
