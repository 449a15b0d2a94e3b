package floating_test

import (
	"fmt"
	"math/big"
	"math/rand"
	"slices"
	"testing"

	"keelblock/api"
	"keelblock/exact"
	"keelblock/floating"
)

// P3.3 and P3.4, and the consequences of P3.8 that tell about them.

// An outcome is what Solve and Reactions must return.
type outcome struct {
	b      api.Body
	a      api.Attitude
	forces []api.Rat
	e      api.Errno
	r      api.Refusal
}

func outcomes() []outcome {
	springs := []api.Support{spring(0), spring(100)}
	pads := []api.Support{pad(0), pad(100)}
	none := api.Attitude{}
	ok := api.Refusal{}
	return []outcome{
		// the examples of the chapter
		{body(40, "25", springs...), at("15", "-1/10"), nums("30", "10"), api.OK, ok},
		{body(40, "-1", springs...), none, nil, api.ErrTip, to("0", "-1")},
		{body(120, "50", pads...), none, nil, api.ErrSink, to("1", "0")},
		{body(80, "50", pads...), at("8", "0"), nums("40", "40"), api.OK, ok},
		{body(80, "75", pads...), none, nil, api.ErrTip, to("0", "1")},
		{body(100, "50", pads...), none, nums("50", "50"), api.ErrLoose, ok},
		{body(6, "10", spring(10)), none, nums("6"), api.ErrLoose, ok},
		// a weight on no support, or on one that carries nothing
		{body(1, "0"), none, nil, api.ErrSink, to("1", "0")},
		{body(1, "0", api.Support{X: 5}), none, nil, api.ErrSink, to("1", "0")},
		// the mirror image, and a weight just above a support
		{body(40, "101", springs...), none, nil, api.ErrTip, to("-100", "1")},
		{body(40, "100", springs...), none, nums("0", "40"), api.ErrLoose, ok},
		{body(40, "99", springs...), at("1/5", "49/250"), nums("2/5", "198/5"), api.OK, ok},
		{body(6, "11", spring(10)), none, nil, api.ErrTip, to("-10", "1")},
		{body(6, "9", spring(10)), none, nil, api.ErrTip, to("10", "-1")},
		{body(6, "10", spring(10), spring(10)), none, nums("3", "3"), api.ErrLoose, ok},
		// a support that is just touched, or just pressed as far as it goes, is a limit on one side
		{body(40, "50", spring(0), spring(100), bent(20, 10)), at("10", "0"), nums("20", "20", "0"), api.OK, ok},
		{body(50, "0", pad(0), spring(9)), none, nums("50", "0"), api.ErrLoose, ok},
		{body(52, "9/26", spring(9), pad(0)), none, nums("2", "50"), api.ErrLoose, ok},
		{body(80, "5", pad(0), spring(10), spring(10)), at("8", "1/5"), nums("40", "20", "20"), api.OK, ok},
		{body(90, "40/9", pad(0), spring(10), spring(10)), none, nums("50", "20", "20"), api.ErrLoose, ok},
		{body(90, "50/9", spring(0), spring(0), pad(10)), none, nums("20", "20", "50"), api.ErrLoose, ok},
		{body(90, "5", spring(0), pad(5), spring(10)), at("10", "0"), nums("20", "50", "20"), api.OK, ok},
		// the place of the least X, of several for which there is a refusal
		{body(90, "65", pad(60), pad(-40), pad(70)), at("255/74", "63/740"), nums("3165/74", "15/74", "1740/37"), api.OK, ok},
		{body(90, "66", pad(60), pad(-40), pad(70)), none, nil, api.ErrTip, to("-60", "1")},
		{body(90, "77", pad(60), pad(-40), pad(70)), none, nil, api.ErrTip, to("40", "1")},
		{body(90, "-70", pad(60), pad(-40), pad(70), pad(-90)), none, nil, api.ErrTip, to("-40", "-1")},
		{body(140, "-59/2", pad(60), pad(-40), pad(70), pad(-90)), none, nil, api.ErrTip, to("60", "-1")},
		// a support without a capacity must not be pressed, also if it is not the last one
		{body(90, "71", pad(60), spring(-40), spring(65), pad(70)), none, nil, api.ErrTip, to("-65", "1")},
		{body(140, "70", spring(-40), spring(65), pad(70)), none, nil, api.ErrTip, to("-65", "1")},
		{body(140, "-70", spring(40), spring(-65), pad(-70)), none, nil, api.ErrTip, to("-65", "-1")},
	}
}

// to is the refusal with A and B.
func to(a, b string) api.Refusal { return api.Refusal{A: num(a), B: num(b)} }

// bent is a spring whose force begins at a start.
func bent(x, start int) api.Support {
	return api.Support{X: x, C: num("0"), Curve: curve([]int{start}, "3")}
}

func TestSolveExamples(t *testing.T) {
	for i, x := range outcomes() {
		for _, b := range []api.Body{x.b, oddBody(x.b)} {
			what := fmt.Sprint("outcome ", i)
			s, r, e := floating.Solve(b)
			want(t, what+": error", e, x.e)
			want(t, what+": refusal", r, x.r)
			if x.e == api.OK {
				want(t, what+": solution", s, api.Solution{Attitude: x.a, Forces: x.forces})
			} else {
				want(t, what+": solution", s, api.Solution{})
			}
			l, e := floating.Reactions(b)
			want(t, what+": reactions", l, x.forces)
			if x.e == api.OK || x.e == api.ErrLoose {
				want(t, what+": error", e, api.OK)
			} else {
				wantError(t, what+": Reactions", x.e, e, l)
			}
		}
	}
}

// Of each body either the solution or the refusal is checked by another way of counting, and
// whether there are more solutions by inequalities.
func TestSolveBySecondOpinion(t *testing.T) {
	r := rand.New(rand.NewSource(2))
	count := map[api.Errno]int{}
	for range 3000 {
		b := randomBody(r)
		count[checkSolve(t, b)]++
	}
	for _, e := range []api.Errno{api.OK, api.ErrSink, api.ErrTip, api.ErrLoose} {
		if count[e] < 20 {
			t.Errorf("only %d bodies with the error %d", count[e], e)
		}
	}
}

// Bodies that rest at a spot where several supports begin or end to yield.
func TestSolveAtBends(t *testing.T) {
	r := rand.New(rand.NewSource(3))
	count := map[api.Errno]int{}
	for range 1500 {
		b := restingBody(r)
		e := checkSolve(t, b)
		if e == api.ErrSink || e == api.ErrTip {
			t.Errorf("%v rests, but there is the error %d", b, e)
		}
		count[e]++
	}
	if count[api.OK] < 50 || count[api.ErrLoose] < 50 {
		t.Errorf("only %v bodies", count)
	}
}

// checkSolve returns the error of Solve.
func checkSolve(t *testing.T, b api.Body) api.Errno {
	t.Helper()
	s, r, e := floating.Solve(b)
	forces, e2 := floating.Reactions(b)
	wanted, isRefused := secondRefusal(b)
	switch e {
	case api.ErrSink, api.ErrTip:
		want(t, "reactions", forces, []api.Rat(nil))
		want(t, "error of the reactions", e2, e)
		want(t, "refusal", r, wanted)
		want(t, "a refusal", isRefused, true)
		want(t, "solution", s, api.Solution{})
		want(t, "a direction without a turn", e == api.ErrSink, bigOf(r.B).Sign() == 0)
	case api.OK, api.ErrLoose:
		want(t, "error of the reactions", e2, api.OK)
		want(t, "refusal", r, api.Refusal{})
		want(t, "a refusal", isRefused, false)
		checkForces(t, b, forces)
		if e == api.ErrLoose {
			want(t, "solution", s, api.Solution{})
			break
		}
		want(t, "forces", s.Forces, forces)
		for i, x := range b.Supports {
			want(t, "a force", s.Forces[i], ofBig(secondReply(x, s.Attitude).force))
		}
		want(t, "attitude", s.Attitude, api.Attitude{Sink: ofBig(bigOf(s.Attitude.Sink)), Slope: ofBig(bigOf(s.Attitude.Slope))})
	default:
		t.Errorf("%v: error %d", b, e)
	}
	if !isRefused {
		want(t, fmt.Sprintf("%v: more equilibria", b), e == api.ErrLoose, isLoose(b, forces))
	}
	return e
}

// checkForces demands that the forces balance the body.
func checkForces(t *testing.T, b api.Body, forces []api.Rat) {
	t.Helper()
	force, moment := new(big.Rat), new(big.Rat)
	for i, f := range bigs(forces) {
		force, moment = plus(force, f), plus(moment, mul(f, bigInt(b.Supports[i].X)))
	}
	want(t, fmt.Sprintf("%v: the force", b), ofBig(force), whole(b.Weight))
	want(t, fmt.Sprintf("%v: the moment", b), ofBig(moment), ofBig(mul(bigInt(b.Weight), bigOf(b.At))))
}

// secondRefusal tries all directions that the chapter names, in its order.
func secondRefusal(b api.Body) (api.Refusal, bool) {
	var places []int
	for _, s := range b.Supports {
		places = append(places, s.X)
	}
	slices.Sort(places)
	directions := []api.Refusal{to("1", "0")}
	for _, x := range places {
		directions = append(directions, api.Refusal{A: whole(-x), B: whole(1)})
	}
	for _, x := range places {
		directions = append(directions, api.Refusal{A: whole(x), B: whole(-1)})
	}
	for _, r := range directions {
		if isRefusal(b, bigInt(b.Weight), mul(bigInt(b.Weight), bigOf(b.At)), r) {
			return r, true
		}
	}
	return api.Refusal{}, false
}

// isRefusal is the definition, for a weight and a moment that may be fractions.
func isRefusal(b api.Body, weight, moment *big.Rat, r api.Refusal) bool {
	yields := new(big.Rat)
	for _, s := range b.Supports {
		way := plus(bigOf(r.A), mul(bigOf(r.B), bigInt(s.X)))
		if way.Sign() <= 0 {
			continue
		}
		most := secondCapacity(s.Curve)
		if most == nil {
			return false
		}
		yields = plus(yields, mul(most, way))
	}
	return yields.Cmp(plus(mul(bigOf(r.A), weight), mul(bigOf(r.B), moment))) < 0
}

// isLoose looks for the greatest and the least sink and slope at which the supports have these
// forces.
func isLoose(b api.Body, forces []api.Rat) bool {
	var rows []api.Row
	for i, s := range b.Supports {
		low, high := level(s.Curve, forces[i])
		if low != nil {
			rows = append(rows, api.Row{Coefs: []api.Rat{whole(-1), whole(-s.X)}, Bound: ofBig(minus(bigOf(s.C), low))})
		}
		if high != nil {
			rows = append(rows, api.Row{Coefs: []api.Rat{whole(1), whole(s.X)}, Bound: ofBig(minus(high, bigOf(s.C)))})
		}
	}
	for _, way := range [][]api.Rat{nums("1", "0"), nums("0", "1")} {
		most, e := exact.Maximize(way, rows)
		least, e2 := exact.Maximize([]api.Rat{exact.MulRat(num("-1"), way[0]), exact.MulRat(num("-1"), way[1])}, rows)
		if e == api.ErrNone || e2 == api.ErrNone {
			panic("forces that no attitude has")
		}
		if e != api.OK || e2 != api.OK || plus(bigOf(most.Value), bigOf(least.Value)).Sign() != 0 {
			return true
		}
	}
	return false
}

// level returns the least and the greatest compression that give a force; nil if there is none.
func level(c api.Curve, force api.Rat) (low, high *big.Rat) {
	f := bigOf(force)
	if f.Sign() > 0 {
		y, _ := exact.Reach(c, force)
		low = bigOf(y)
	}
	for i, start := range c.Starts {
		value := secondReply(api.Support{Curve: c}, api.Attitude{Sink: whole(start)}).force
		if bigOf(c.Slopes[i]).Sign() > 0 && value.Cmp(f) == 0 {
			return low, bigInt(start)
		}
	}
	if most := secondCapacity(c); most != nil && most.Cmp(f) == 0 {
		return low, nil
	}
	return low, low
}

// Bodies with many supports and bends, places and numbers far apart, and slopes that differ much:
// the search ends, and what it finds is checked.
func TestSolveLarge(t *testing.T) {
	r := rand.New(rand.NewSource(4))
	for i, n := range []int{2, 3, 5, 20, 100, 100, 3, 7, 40, 100} {
		for range 12 {
			b := largeBody(r, n, 1+r.Intn(40), i >= 5)
			s, refusal, e := floating.Solve(b)
			switch e {
			case api.OK:
				want(t, "the check", floating.CheckSolution(b, s), api.OK)
				checkForces(t, b, s.Forces)
			case api.ErrTip, api.ErrSink:
				want(t, "the check", floating.CheckRefusal(b, refusal), api.OK)
				wanted, _ := secondRefusal(b)
				want(t, "the refusal", refusal, wanted)
			default:
				t.Errorf("error %d", e)
			}
		}
	}
}

func largeBody(r *rand.Rand, supports, bends int, isSteep bool) api.Body {
	b := api.Body{Weight: 1 + r.Intn(1000000000), At: ratio(r.Intn(2000001)-1000000, 1+r.Intn(9))}
	for range supports {
		s := api.Support{X: r.Intn(2000001) - 1000000, C: ratio(r.Intn(2000001)-1000000, 1+r.Intn(1000))}
		start := r.Intn(10000000) - 10000000
		for range bends {
			s.Curve.Starts = append(s.Curve.Starts, start)
			k := ratio(r.Intn(1000), 1+r.Intn(1000))
			if isSteep {
				k = power(r.Intn(31) - 20)
			}
			s.Curve.Slopes = append(s.Curve.Slopes, k)
			start += 1 + r.Intn(400000)
		}
		b.Supports = append(b.Supports, s)
	}
	return b
}

// power returns 10^n.
func power(n int) api.Rat {
	ten := exact.Of(1)
	for range max(n, -n) {
		ten = exact.Mul(ten, exact.Of(10))
	}
	if n < 0 {
		return api.Rat{Num: exact.Of(1), Den: ten}
	}
	return exact.Whole(ten)
}

// A support that is almost without stiffness lets the body sink very far.
func TestSolveFarAway(t *testing.T) {
	soft := func(x int) api.Support {
		return api.Support{X: x, Curve: api.Curve{Starts: []int{0}, Slopes: []api.Rat{power(-300)}}}
	}
	b := body(1000, "3", soft(0), soft(10), pad(5))
	s, r, e := floating.Solve(b)
	want(t, "error", e, api.OK)
	want(t, "refusal", r, api.Refusal{})
	want(t, "the check", floating.CheckSolution(b, s), api.OK)
	want(t, "the pad's force", s.Forces[2], num("50"))
	checkForces(t, b, s.Forces)
}

func TestCheckSolution(t *testing.T) {
	b := body(40, "25", spring(0), spring(100))
	good := api.Solution{Attitude: at("15", "-1/10"), Forces: nums("30", "10")}
	want(t, "a solution", floating.CheckSolution(b, good), api.OK)
	other := api.Solution{Attitude: oddAt(good.Attitude), Forces: []api.Rat{odd(num("30")), odd(num("10"))}}
	want(t, "other representations", floating.CheckSolution(oddBody(b), other), api.OK)
	for i, s := range []api.Solution{
		{},
		{Attitude: good.Attitude},
		{Forces: good.Forces},
		{Attitude: good.Attitude, Forces: nums("30")},
		{Attitude: good.Attitude, Forces: nums("30", "10", "0")},
		{Attitude: good.Attitude, Forces: nums("10", "30")},
		{Attitude: good.Attitude, Forces: nums("30", "10001/1000")},
		{Attitude: at("15", "-1/11"), Forces: good.Forces},
		// the forces of this attitude, with the right sum but not the right moment
		{Attitude: at("10", "0"), Forces: nums("20", "20")},
		// with the right moment but not the right sum
		{Attitude: at("13", "-2/25"), Forces: nums("26", "10")},
		{Attitude: at("16", "-11/100"), Forces: nums("32", "10")},
	} {
		wantError(t, fmt.Sprint("solution ", i), api.ErrProof, floating.CheckSolution(b, s))
	}
	// also one of many equilibria
	loose := body(6, "10", spring(10))
	for _, a := range []api.Attitude{at("3", "0"), at("13", "-1"), at("-7", "1")} {
		want(t, "an equilibrium", floating.CheckSolution(loose, api.Solution{Attitude: a, Forces: nums("6")}), api.OK)
	}
	wantError(t, "no supports", api.ErrProof, floating.CheckSolution(body(1, "0"), api.Solution{}))
}

// P3.8: no attitude has less energy, the stiffer side of what a body leans on being as it may.
func TestLeastEnergy(t *testing.T) {
	r := rand.New(rand.NewSource(5))
	for range 1500 {
		b := randomBody(r)
		s, _, e := floating.Solve(b)
		if e != api.OK {
			continue
		}
		least, _ := floating.Energy(b, s.Attitude)
		for range 4 {
			a := randomAttitude(r)
			u, _ := floating.Energy(b, a)
			if exact.CmpRat(u, least) < 0 {
				t.Errorf("%v has less energy at %v", b, a)
			}
		}
	}
}

// P3.8: of the two certificates a body has one.
func TestOneCertificate(t *testing.T) {
	r := rand.New(rand.NewSource(6))
	for range 1000 {
		b := randomBody(r)
		s, _, e := floating.Solve(b)
		for range 8 {
			refusal := api.Refusal{A: ratio(r.Intn(21)-10, 1), B: ratio(r.Intn(5)-2, 1)}
			if r.Intn(2) == 0 && len(b.Supports) > 0 {
				refusal.A = exact.MulRat(refusal.B, whole(-b.Supports[0].X))
			}
			c := floating.CheckRefusal(b, refusal)
			if (e == api.OK || e == api.ErrLoose) && c != api.ErrProof {
				t.Errorf("%v rests at %v, but is refused by %v", b, s, refusal)
			}
			wanted := isRefusal(b, bigInt(b.Weight), mul(bigInt(b.Weight), bigOf(b.At)), refusal)
			want(t, fmt.Sprintf("%v %v: a refusal", b, refusal), c == api.OK, wanted)
		}
	}
}
