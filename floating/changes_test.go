package floating_test

import (
	"fmt"
	"math/rand"
	"testing"

	"keelblock/api"
	"keelblock/floating"
)

// P3.6, and what P3.8 says of changes.

func TestRaise(t *testing.T) {
	b := body(40, "25", raft()...)
	for _, by := range []string{"0", "7", "-1/3", "9999980", "-9999998"} {
		wanted := body(40, "25", raft()...)
		for i, s := range wanted.Supports {
			wanted.Supports[i].C = ofBig(plus(bigOf(s.C), bigOf(num(by))))
		}
		for _, given := range []api.Body{b, oddBody(b)} {
			for _, x := range []api.Rat{num(by), odd(num(by))} {
				c, e := floating.Raise(given, x)
				want(t, "raised by "+by, c, wanted)
				want(t, "raised by "+by, e, api.OK)
			}
		}
	}
	for _, by := range []string{"99999801/10", "-10000000", "1000000000000000000000"} {
		c, e := floating.Raise(b, num(by))
		wantError(t, "raised by "+by, api.ErrRange, e, c)
	}
	c, e := floating.Raise(body(3, "4"), num("1000000000000"))
	want(t, "nothing is raised", c, body(3, "4"))
	want(t, "nothing is raised", e, api.OK)
}

func TestWithout(t *testing.T) {
	l := raft()
	for i := range l {
		var rest []api.Support
		for k, s := range l {
			if k != i {
				rest = append(rest, s)
			}
		}
		for _, b := range []api.Body{body(9, "1/2", l...), oddBody(body(9, "1/2", l...))} {
			c, e := floating.Without(b, i)
			want(t, fmt.Sprint("without ", i), c, body(9, "1/2", rest...))
			want(t, "the error", e, api.OK)
		}
	}
	for _, i := range []int{-1, 5, 6, 1 << 62, -1 << 63} {
		c, e := floating.Without(body(9, "1/2", l...), i)
		wantError(t, fmt.Sprint("without ", i), api.ErrMissing, e, c)
	}
	c, e := floating.Without(body(9, "1/2"), 0)
	wantError(t, "without one of none", api.ErrMissing, e, c)
}

func TestAdd(t *testing.T) {
	for _, x := range []struct {
		mass, x, weight int
		at              string
	}{
		{0, 0, 40, "5/2"},
		{0, 1000000, 40, "5/2"},
		{10, 0, 50, "2"},
		{10, 10, 50, "4"},
		{2, -17, 42, "11/7"},
		{999999960, 1000000, 1000000000, "9999999600001/10000000"},
		{999999960, -1000000, 1000000000, "-9999999599999/10000000"},
	} {
		for _, b := range []api.Body{body(40, "5/2", raft()...), oddBody(body(40, "5/2", raft()...))} {
			c, e := floating.Add(b, x.mass, x.x)
			want(t, fmt.Sprint("with ", x.mass, " at ", x.x), c, body(x.weight, x.at, raft()...))
			want(t, "the error", e, api.OK)
		}
	}
	for _, x := range [][3]int{
		{40, -1, 0}, {40, 1000000001, 0}, {40, 0, 1000001}, {40, 0, -1000001}, {40, 1 << 62, 5}, {40, 999999961, 0},
		{1000000000, 1, 0}, {1000000000, 1000000000, 0}, {40, 5, 1 << 62},
	} {
		c, e := floating.Add(body(x[0], "5/2", raft()...), x[1], x[2])
		wantError(t, fmt.Sprint("with ", x), api.ErrRange, e, c)
	}
}

func TestTrimmed(t *testing.T) {
	b := body(40, "25", spring(0), spring(100))
	s := api.Solution{Attitude: at("15", "-1/10"), Forces: nums("30", "10")}
	for _, x := range []struct {
		w api.Load
		a api.Attitude
	}{
		{api.Load{}, at("15", "-1/10")},
		{api.Load{X: -1000000}, at("15", "-1/10")},
		{api.Load{Mass: 8, X: 50}, at("17", "-1/10")},
		{api.Load{Mass: 8, X: 100}, at("15", "-3/50")},
		{api.Load{Mass: 8, X: 0}, at("19", "-7/50")},
		// also beyond the bends, as if there were none
		{api.Load{Mass: 8, X: -1000}, at("59", "-47/50")},
		{api.Load{Mass: 1000000000, X: 50}, at("250000015", "-1/10")},
		{api.Load{Mass: 1, X: 1000000}, at("-9969/2", "19979/200")},
		{api.Load{Name: "9 no name", Mass: 8, X: 50, Z: 1 << 62, Free: -1}, at("17", "-1/10")},
	} {
		a, e := floating.Trimmed(b, s, x.w)
		want(t, fmt.Sprint("trimmed by ", x.w), a, x.a)
		want(t, "the error", e, api.OK)
		other := api.Solution{Attitude: oddAt(s.Attitude), Forces: []api.Rat{odd(s.Forces[0]), odd(s.Forces[1])}}
		a, e = floating.Trimmed(oddBody(b), other, x.w)
		want(t, fmt.Sprint("trimmed by ", x.w), a, x.a)
		want(t, "the error", e, api.OK)
	}
}

func TestTrimmedErrors(t *testing.T) {
	b := body(40, "25", spring(0), spring(100))
	good := api.Solution{Attitude: at("15", "-1/10"), Forces: nums("30", "10")}
	bad := api.Solution{Attitude: at("15", "-1/10"), Forces: nums("10", "30")}
	one := body(6, "10", spring(10))
	stands := api.Solution{Attitude: at("3", "0"), Forces: nums("6")}
	full := body(100, "50", pad(0), pad(100))
	pressed := api.Solution{Attitude: at("10", "0"), Forces: nums("50", "50")}
	for i, x := range []struct {
		b api.Body
		s api.Solution
		w api.Load
		e api.Errno
	}{
		{b, bad, api.Load{}, api.ErrProof},
		{b, bad, api.Load{Mass: -1}, api.ErrProof},
		{b, good, api.Load{Mass: -1}, api.ErrRange},
		{b, good, api.Load{Mass: 1000000001}, api.ErrRange},
		{b, good, api.Load{X: 1000001}, api.ErrRange},
		{b, good, api.Load{X: -1000001}, api.ErrRange},
		{one, api.Solution{}, api.Load{Mass: -1}, api.ErrProof},
		{one, stands, api.Load{Mass: -1}, api.ErrRange},
		{one, stands, api.Load{}, api.ErrZero},
		{one, stands, api.Load{Mass: 5, X: 10}, api.ErrZero},
		{full, pressed, api.Load{}, api.ErrZero},
		{full, api.Solution{Attitude: at("9", "0"), Forces: nums("45", "45")}, api.Load{}, api.ErrProof},
	} {
		a, e := floating.Trimmed(x.b, x.s, x.w)
		wantError(t, fmt.Sprint("case ", i), x.e, e, a)
	}
}

// P3.8: if no support passes a bend, the prediction is the equilibrium with the load.
func TestTrimmedIsExactWithinPieces(t *testing.T) {
	r := rand.New(rand.NewSource(9))
	count := 0
	for range 3000 {
		b := restingBody(r)
		s, _, e := floating.Solve(b)
		if e != api.OK {
			continue
		}
		w := api.Load{Mass: r.Intn(3), X: r.Intn(21) - 10}
		a, e := floating.Trimmed(b, s, w)
		if e != api.OK || passesBend(b.Supports, s.Attitude, a) {
			continue
		}
		count++
		more, _ := floating.Add(b, w.Mass, w.X)
		f, _ := floating.Forces(b.Supports, a)
		want(t, fmt.Sprintf("%v with %v", b, w), floating.CheckSolution(more, api.Solution{Attitude: a, Forces: f}), api.OK)
	}
	if count < 100 {
		t.Errorf("only %d predictions", count)
	}
}

// passesBend reports whether the stiffness on the right side before is not that of the whole way.
func passesBend(l []api.Support, before, after api.Attitude) bool {
	for _, s := range l {
		p, q := secondReply(s, before), secondReply(s, after)
		for _, start := range s.Curve.Starts {
			x := bigInt(start)
			if p.y.Cmp(x) >= 0 && q.y.Cmp(x) < 0 || p.y.Cmp(x) < 0 && q.y.Cmp(x) > 0 {
				return true
			}
		}
	}
	return false
}

// P3.8: the forces of a body do not change if all its supports are raised.
func TestRaisedForces(t *testing.T) {
	r := rand.New(rand.NewSource(10))
	for range 400 {
		b := restingBody(r)
		forces, _ := floating.Reactions(b)
		by := ratio(r.Intn(2001)-1000, 1+r.Intn(9))
		c, e := floating.Raise(b, by)
		want(t, "the error", e, api.OK)
		after, _ := floating.Reactions(c)
		want(t, "the forces", after, forces)
		s, _, e := floating.Solve(b)
		u, _, e2 := floating.Solve(c)
		want(t, "the error", e2, e)
		if e == api.OK {
			want(t, "the sink", u.Attitude.Sink, ofBig(minus(bigOf(s.Attitude.Sink), bigOf(by))))
			want(t, "the slope", u.Attitude.Slope, s.Attitude.Slope)
		}
	}
}

// P3.8: what is compressed more never carries less.
func TestForcesNeverFall(t *testing.T) {
	r := rand.New(rand.NewSource(11))
	for range 500 {
		l, a, c := randomBody(r).Supports, randomAttitude(r), randomAttitude(r)
		before, _ := floating.Forces(l, a)
		after, _ := floating.Forces(l, c)
		y, _ := floating.Immersions(l, a)
		z, _ := floating.Immersions(l, c)
		sum := bigInt(0)
		for i := range l {
			sum = plus(sum, mul(minus(bigOf(after[i]), bigOf(before[i])), minus(bigOf(z[i]), bigOf(y[i]))))
		}
		want(t, "the sum is negative", sum.Sign() < 0, false)
	}
}
