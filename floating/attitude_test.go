package floating_test

import (
	"math/big"
	"math/rand"
	"slices"
	"testing"

	"keelblock/api"
	"keelblock/floating"
)

// P3.2

func TestAtAttitude(t *testing.T) {
	springs := []api.Support{spring(0), spring(100)}
	springs[1].C = num("-2/3")
	a := at("15", "-1/10")
	y, e := floating.Immersions(springs, a)
	want(t, "the error", e, api.OK)
	want(t, "compressions", y, nums("15", "13/3"))
	f, e := floating.Forces(springs, a)
	want(t, "the error", e, api.OK)
	want(t, "forces", f, nums("30", "26/3"))
	total, e := floating.Total(springs, a)
	want(t, "the error", e, api.OK)
	want(t, "the total", total, api.Resultant{Force: num("116/3"), Moment: num("2600/3")})
	x, e := floating.Energy(body(40, "25/2", springs...), a)
	want(t, "the error", e, api.OK)
	// 15^2 + (13/3)^2 less 40 times the sink at 25/2
	want(t, "the energy", x, num("-2756/9"))
}

func TestExampleOfStiffness(t *testing.T) {
	springs := []api.Support{spring(0), spring(100)}
	k, e := floating.Stiff(springs, at("15", "-1/10"))
	want(t, "the error", e, api.OK)
	want(t, "the stiffness", k, api.Stiffness{Heave: num("4"), Cross: num("200"), Pitch: num("20000")})
	x, e := floating.Centre(springs, at("15", "-1/10"))
	want(t, "the error", e, api.OK)
	want(t, "the centre", x, num("50"))
	// on the right side of both starts
	k, _ = floating.Stiff(springs, at("0", "0"))
	want(t, "the stiffness at the starts", k.Heave, num("4"))
	k, _ = floating.Stiff([]api.Support{pad(-3), pad(5)}, at("10", "0"))
	want(t, "the stiffness at the caps", k, api.Stiffness{Heave: num("0"), Cross: num("0"), Pitch: num("0")})
	x, e = floating.Centre([]api.Support{pad(-3), pad(5)}, at("10", "0"))
	wantError(t, "the centre at the caps", api.ErrZero, e, x)
	x, e = floating.Centre(springs, at("-1", "1/100"))
	want(t, "the error", e, api.OK)
	want(t, "the centre of one spring", x, num("100"))
	x, e = floating.Centre([]api.Support{spring(-7), spring(7)}, at("1", "0"))
	want(t, "the error", e, api.OK)
	want(t, "the centre", x, num("0"))
}

func TestLoaded(t *testing.T) {
	l := []api.Support{spring(0), pad(10), {X: 20}, spring(30)}
	for _, x := range []struct {
		a      api.Attitude
		wanted []int
	}{
		{at("0", "0"), nil},
		{at("1/1000", "0"), []int{0, 1, 3}},
		{at("1", "-1/10"), []int{0}},
		{at("-1", "1/10"), []int{3}},
		{at("-1", "1/9"), []int{1, 3}},
		{at("500", "0"), []int{0, 1, 3}},
	} {
		n, e := floating.Loaded(l, x.a)
		want(t, "the error", e, api.OK)
		want(t, "the loaded supports", n, x.wanted)
	}
}

func TestCapacity(t *testing.T) {
	steep := api.Support{X: 4, Curve: curve([]int{-9, -7, 1}, "0", "3/2", "0")}
	for _, x := range []struct {
		l       []api.Support
		most    api.Rat
		limited bool
	}{
		{nil, num("0"), true},
		{[]api.Support{{X: 5}}, num("0"), true},
		{[]api.Support{pad(0)}, num("50"), true},
		{[]api.Support{pad(0), {X: 5}, steep, pad(9)}, num("112"), true},
		{[]api.Support{pad(0), spring(5)}, api.Rat{}, false},
		{[]api.Support{spring(0), pad(5)}, api.Rat{}, false},
		{[]api.Support{{X: 1, Curve: curve([]int{4}, "0")}}, num("0"), true},
	} {
		for range 2 {
			most, limited, e := floating.Capacity(x.l)
			want(t, "the error", e, api.OK)
			want(t, "the capacity", most, x.most)
			want(t, "a limit", limited, x.limited)
			x.l = oddBody(body(1, "0", x.l...)).Supports
		}
	}
}

func TestNothingAtAnAttitude(t *testing.T) {
	a := at("5", "7")
	y, e := floating.Immersions(nil, a)
	want(t, "compressions", y, []api.Rat{})
	want(t, "the error", e, api.OK)
	f, e := floating.Forces(nil, a)
	want(t, "forces", f, []api.Rat{})
	want(t, "the error", e, api.OK)
	total, e := floating.Total(nil, a)
	want(t, "the total", total, api.Resultant{Force: num("0"), Moment: num("0")})
	want(t, "the error", e, api.OK)
	k, e := floating.Stiff(nil, a)
	want(t, "the stiffness", k, api.Stiffness{Heave: num("0"), Cross: num("0"), Pitch: num("0")})
	want(t, "the error", e, api.OK)
	x, e := floating.Centre(nil, a)
	wantError(t, "the centre", api.ErrZero, e, x)
	x, e = floating.Energy(body(3, "2"), a)
	want(t, "the energy", x, num("-57"))
	want(t, "the error", e, api.OK)
}

// All of P3.2 by another way of counting, with all representations (R9).
func TestAtAttitudeBySecondOpinion(t *testing.T) {
	r := rand.New(rand.NewSource(1))
	for range 600 {
		b, a := randomBody(r), randomAttitude(r)
		if r.Intn(3) == 0 {
			b.Supports = raft()
		}
		checkAt(t, b, a, b, a)
		checkAt(t, oddBody(b), oddAt(a), b, a)
	}
}

// checkAt asks for one body and attitude, and compares with the same in their usual form.
func checkAt(t *testing.T, b api.Body, a api.Attitude, usual api.Body, usualAt api.Attitude) {
	t.Helper()
	var y, f []*big.Rat
	var loaded []int
	heave, cross, pitch := new(big.Rat), new(big.Rat), new(big.Rat)
	sunk := plus(bigOf(usualAt.Sink), mul(bigOf(usualAt.Slope), bigOf(usual.At)))
	energy := new(big.Rat).Neg(mul(bigInt(usual.Weight), sunk))
	for i, s := range usual.Supports {
		p := secondReply(s, usualAt)
		y, f = append(y, p.y), append(f, p.force)
		if p.force.Sign() != 0 {
			loaded = append(loaded, i)
		}
		x := bigInt(s.X)
		heave, cross, pitch = plus(heave, p.slope), plus(cross, mul(p.slope, x)), plus(pitch, mul(p.slope, mul(x, x)))
		energy = plus(energy, p.integral)
	}
	gotY, e := floating.Immersions(b.Supports, a)
	want(t, "the error", e, api.OK)
	want(t, "compressions", gotY, ofBigs(y))
	gotF, e := floating.Forces(b.Supports, a)
	want(t, "the error", e, api.OK)
	want(t, "forces", gotF, ofBigs(f))
	n, e := floating.Loaded(b.Supports, a)
	want(t, "the error", e, api.OK)
	want(t, "the loaded supports", n, loaded)
	total, e := floating.Total(b.Supports, a)
	want(t, "the error", e, api.OK)
	force, moment := secondTotal(usual.Supports, usualAt)
	want(t, "the total", total, api.Resultant{Force: ofBig(force), Moment: ofBig(moment)})
	k, e := floating.Stiff(b.Supports, a)
	want(t, "the error", e, api.OK)
	want(t, "the stiffness", k, api.Stiffness{Heave: ofBig(heave), Cross: ofBig(cross), Pitch: ofBig(pitch)})
	x, e := floating.Centre(b.Supports, a)
	if heave.Sign() == 0 {
		wantError(t, "the centre", api.ErrZero, e, x)
	} else {
		want(t, "the centre", x, ofBig(quo(cross, heave)))
	}
	u, e := floating.Energy(b, a)
	want(t, "the error", e, api.OK)
	want(t, "the energy", u, ofBig(energy))
	checkCapacity(t, b.Supports, usual.Supports)
}

func checkCapacity(t *testing.T, l, usual []api.Support) {
	t.Helper()
	most, limited, e := floating.Capacity(l)
	want(t, "the error", e, api.OK)
	sum := new(big.Rat)
	for _, s := range usual {
		if secondCapacity(s.Curve) == nil {
			want(t, "a limit", limited, false)
			want(t, "the capacity", most, api.Rat{})
			return
		}
		sum = plus(sum, secondCapacity(s.Curve))
	}
	want(t, "a limit", limited, true)
	want(t, "the capacity", most, ofBig(sum))
}

// The order of the supports is that of the argument.
func TestOrderOfSupports(t *testing.T) {
	l := raft()
	f, _ := floating.Forces(l, at("30", "1/40"))
	slices.Reverse(l)
	g, _ := floating.Forces(l, at("30", "1/40"))
	slices.Reverse(g)
	want(t, "forces", g, f)
}
