package floating_test

import (
	"testing"

	"keelblock/api"
	"keelblock/floating"
)

// P1 and P2: what DOC.md's rules say of all functions.

// spacious has the supports of a raft in lists that have room behind their ends.
func spacious() []api.Support {
	l := append(make([]api.Support, 0, 20), raft()...)
	for i, s := range l {
		l[i].Curve.Starts = append(make([]int, 0, 20), s.Curve.Starts...)
		l[i].Curve.Slopes = append(make([]api.Rat, 0, 20), s.Curve.Slopes...)
	}
	return l
}

func attitudes() []api.Attitude {
	return []api.Attitude{
		{}, at("8", "0"), at("101/2", "-1/30"), oddAt(at("9", "1/200")), at("-9", "0"), at("50000", "0"), at("0", "1"),
	}
}

func bodies() []api.Body {
	l := []api.Body{
		{},
		body(200, "300", spacious()...),
		body(2000, "300", spacious()...),
		body(100000, "300", spacious()...),
		body(200, "-199", spacious()...),
		body(200, "-201", spacious()...),
		oddBody(body(500, "1/3", spacious()...)),
	}
	for _, x := range outcomes() {
		l = append(l, x.b)
	}
	return l
}

func TestResultsAreNew(t *testing.T) {
	for _, b := range bodies() {
		wantOwn(t, "Check", floating.Check, b.Supports)
		wantOwn(t, "CheckBody", floating.CheckBody, b)
		wantOwn(t, "Capacity", floating.Capacity, b.Supports)
		wantOwn(t, "Solve", floating.Solve, b)
		wantOwn(t, "Reactions", floating.Reactions, b)
		for _, a := range attitudes() {
			wantOwn(t, "Immersions", floating.Immersions, b.Supports, a)
			wantOwn(t, "Forces", floating.Forces, b.Supports, a)
			wantOwn(t, "Loaded", floating.Loaded, b.Supports, a)
			wantOwn(t, "Total", floating.Total, b.Supports, a)
			wantOwn(t, "Energy", floating.Energy, b, a)
			wantOwn(t, "Stiff", floating.Stiff, b.Supports, a)
			wantOwn(t, "Centre", floating.Centre, b.Supports, a)
			wantOwn(t, "CheckRefusal", floating.CheckRefusal, b, api.Refusal{A: a.Sink, B: a.Slope})
			wantOwn(t, "Raise", floating.Raise, b, a.Sink)
		}
		s, r, _ := floating.Solve(b)
		wantOwn(t, "CheckSolution", floating.CheckSolution, b, s)
		wantOwn(t, "CheckRefusal", floating.CheckRefusal, b, r)
		for _, n := range []int{-1, 0, 1, 4, 1000} {
			wantOwn(t, "Reserve", floating.Reserve, b, n)
			wantOwn(t, "Without", floating.Without, b, n)
			wantOwn(t, "Add", floating.Add, b, n, n)
			wantOwn(t, "Trimmed", floating.Trimmed, b, s, api.Load{Mass: n, X: n})
		}
		wantOwn(t, "Weigh", floating.Weigh, tug(), b.Supports)
	}
	wantOwn(t, "Float", floating.Float, tug(), 1025)
	wantOwn(t, "Float", floating.Float, barge(box(0, 9)), 1025)
	wantOwn(t, "Float", floating.Float, api.Ship{}, 1025)
}

// What is done to a result has no effect on its argument, nor on the next call.
func TestResultsMayBeOverwritten(t *testing.T) {
	b := body(200, "300", spacious()...)
	for _, change := range []func() (api.Body, api.Errno){
		func() (api.Body, api.Errno) { return floating.Raise(b, num("1/3")) },
		func() (api.Body, api.Errno) { return floating.Raise(b, api.Rat{}) },
		func() (api.Body, api.Errno) { return floating.Without(b, 4) },
		func() (api.Body, api.Errno) { return floating.Add(b, 0, 0) },
		func() (api.Body, api.Errno) { return floating.Add(b, 7, 8) },
		func() (api.Body, api.Errno) { return floating.Weigh(tug(), b.Supports) },
	} {
		out, e := change()
		before, _ := change()
		want(t, "the error", e, api.OK)
		spoil(out)
		want(t, "the argument", b, body(200, "300", raft()...))
		again, _ := change()
		want(t, "the next call", again, before)
	}
}

func spoil(b api.Body) {
	b.At.Den.Limbs[0] = 7
	for i := range b.Supports {
		s := &b.Supports[i]
		s.C.Den.Limbs[0] = 7
		for k := range s.Curve.Starts {
			s.Curve.Starts[k] = 9
			s.Curve.Slopes[k].Den.Limbs[0] = 7
		}
		s.X = 8
	}
}

// R9: a result is the same for all representations of the arguments.
func TestRepresentations(t *testing.T) {
	for _, b := range bodies() {
		s, r, e := floating.Solve(b)
		s2, r2, e2 := floating.Solve(oddBody(b))
		want(t, "Solve", []any{s2, r2, e2}, []any{s, r, e})
		for _, x := range []int{-1000, 0, 5} {
			room, limited, e := floating.Reserve(b, x)
			room2, limited2, e2 := floating.Reserve(oddBody(b), x)
			want(t, "Reserve", []any{room2, limited2, e2}, []any{room, limited, e})
		}
	}
}
