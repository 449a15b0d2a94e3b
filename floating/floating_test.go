package floating_test

import (
	"testing"

	"keelblock/api"
	"keelblock/floating"
)

// P3.1

// A wrongSupport is one with an error that Check must find.
type wrongSupport struct {
	what   string
	change func(s *api.Support)
	e      api.Errno
}

func wrongSupports() []wrongSupport {
	return []wrongSupport{
		{"X", func(s *api.Support) { s.X = -1000001 }, api.ErrRange},
		{"X", func(s *api.Support) { s.X = 1000001 }, api.ErrRange},
		{"C", func(s *api.Support) { s.C = num("-10000001") }, api.ErrRange},
		{"C", func(s *api.Support) { s.C = num("-100000001/10") }, api.ErrRange},
		{"C", func(s *api.Support) { s.C = num("10000001") }, api.ErrRange},
		{"C", func(s *api.Support) { s.C = odd(num("30000001/3")) }, api.ErrRange},
		{"starts", func(s *api.Support) { s.Curve = long(41) }, api.ErrLarge},
		{"slopes", func(s *api.Support) { s.Curve.Slopes = nums("1") }, api.ErrShape},
		{"slope", func(s *api.Support) { s.Curve.Slopes[1] = num("-1/9") }, api.ErrRange},
		{"start", func(s *api.Support) { s.Curve.Starts[0] = -10000001 }, api.ErrRange},
		{"order", func(s *api.Support) { s.Curve.Starts[1] = 0 }, api.ErrOrder},
		{"X and curve", func(s *api.Support) { s.X, s.Curve = 1000001, long(41) }, api.ErrRange},
		{"C and curve", func(s *api.Support) { s.C, s.Curve = num("10000001"), long(41) }, api.ErrRange},
		{"curve only", func(s *api.Support) { s.Curve.Starts, s.Curve.Slopes = []int{5, 4}, nums("-1", "1") }, api.ErrRange},
	}
}

func long(n int) api.Curve {
	c := api.Curve{}
	for i := range n {
		c.Starts = append(c.Starts, i)
		c.Slopes = append(c.Slopes, num("1"))
	}
	return c
}

func TestCheck(t *testing.T) {
	want(t, "nothing", floating.Check(nil), api.OK)
	want(t, "a raft", floating.Check(raft()), api.OK)
	edges := []api.Support{
		{X: -1000000, C: num("-10000000"), Curve: curve([]int{-10000000, 10000000}, "0", "0")},
		{X: 1000000, C: num("10000000"), Curve: long(40)},
		{X: 5, C: odd(num("19999999/2"))},
	}
	want(t, "the bounds", floating.Check(edges), api.OK)
	want(t, "100 supports", floating.Check(make([]api.Support, 100)), api.OK)
	for _, w := range wrongSupports() {
		l := []api.Support{spring(5), pad(7), {X: 9000000}}
		w.change(&l[1])
		wantError(t, w.what, w.e, floating.Check(l))
	}
	many := make([]api.Support, 101)
	many[0].X = 9000000
	wantError(t, "101 supports", api.ErrLarge, floating.Check(many))
}

func TestCheckBody(t *testing.T) {
	for _, b := range []api.Body{body(1, "-1000000"), body(1000000000, "1000000", raft()...), body(5, "1999999/2", pad(3))} {
		want(t, "a body", floating.CheckBody(b), api.OK)
		want(t, "an odd body", floating.CheckBody(oddBody(b)), api.OK)
	}
	for _, w := range wrongBodies() {
		wantError(t, w.what, w.e, floating.CheckBody(w.b))
	}
}

type wrongBody struct {
	what string
	b    api.Body
	e    api.Errno
}

func wrongBodies() []wrongBody {
	bad := api.Support{Curve: api.Curve{Starts: []int{5}}}
	return []wrongBody{
		{"no weight", body(0, "0", spring(0), spring(9)), api.ErrRange},
		{"negative weight", body(-5, "0", spring(0), spring(9)), api.ErrRange},
		{"too much weight", body(1000000001, "0", spring(0), spring(9)), api.ErrRange},
		{"At too far aft", body(5, "-2000001/2", spring(0), spring(9)), api.ErrRange},
		{"At too far forward", body(5, "1000001", spring(0), spring(9)), api.ErrRange},
		{"a curve", body(5, "0", spring(0), bad), api.ErrShape},
		{"weight and a curve", body(0, "0", spring(0), bad), api.ErrRange},
		{"At and a curve", body(5, "1000001", bad), api.ErrRange},
		{"supports", body(5, "0", make([]api.Support, 101)...), api.ErrLarge},
	}
}

// P1, R1 and R7: the errors of supports and bodies come before all others.
func TestErrorsOfSupportsAndBodies(t *testing.T) {
	for _, w := range wrongSupports() {
		l := []api.Support{spring(5), pad(7)}
		w.change(&l[1])
		supportErrors(t, w.what, l, w.e)
		bodyErrors(t, w.what, body(5, "6", l...), w.e)
		b, e := floating.Weigh(tug(), l)
		wantError(t, w.what+": Weigh", w.e, e, b)
	}
	for _, w := range wrongBodies() {
		bodyErrors(t, w.what, w.b, w.e)
	}
}

func supportErrors(t *testing.T, what string, l []api.Support, wanted api.Errno) {
	t.Helper()
	y, e := floating.Immersions(l, at("1", "2"))
	wantError(t, what+": Immersions", wanted, e, y)
	y, e = floating.Forces(l, at("1", "2"))
	wantError(t, what+": Forces", wanted, e, y)
	n, e := floating.Loaded(l, at("1", "2"))
	wantError(t, what+": Loaded", wanted, e, n)
	total, e := floating.Total(l, at("1", "2"))
	wantError(t, what+": Total", wanted, e, total)
	most, limited, e := floating.Capacity(l)
	wantError(t, what+": Capacity", wanted, e, most, limited)
	k, e := floating.Stiff(l, at("1", "2"))
	wantError(t, what+": Stiff", wanted, e, k)
	x, e := floating.Centre(l, at("-100", "0"))
	wantError(t, what+": Centre", wanted, e, x)
}

func bodyErrors(t *testing.T, what string, b api.Body, wanted api.Errno) {
	t.Helper()
	wantError(t, what+": CheckBody", wanted, floating.CheckBody(b))
	x, e := floating.Energy(b, at("1", "2"))
	wantError(t, what+": Energy", wanted, e, x)
	s, r, e := floating.Solve(b)
	wantError(t, what+": Solve", wanted, e, s, r)
	l, e := floating.Reactions(b)
	wantError(t, what+": Reactions", wanted, e, l)
	wantError(t, what+": CheckSolution", wanted, floating.CheckSolution(b, api.Solution{}))
	wantError(t, what+": CheckRefusal", wanted, floating.CheckRefusal(b, api.Refusal{}))
	x, limited, e := floating.Reserve(b, 1000001)
	wantError(t, what+": Reserve", wanted, e, x, limited)
	for _, by := range []string{"1", "90000000"} {
		c, e := floating.Raise(b, num(by))
		wantError(t, what+": Raise", wanted, e, c)
	}
	for _, i := range []int{-1, 0, 1} {
		c, e := floating.Without(b, i)
		wantError(t, what+": Without", wanted, e, c)
	}
	for _, mass := range []int{-1, 0, 5} {
		c, e := floating.Add(b, mass, 7)
		wantError(t, what+": Add", wanted, e, c)
	}
	a, e := floating.Trimmed(b, api.Solution{}, api.Load{Mass: -1})
	wantError(t, what+": Trimmed", wanted, e, a)
}
