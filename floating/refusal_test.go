package floating_test

import (
	"fmt"
	"math/big"
	"math/rand"
	"testing"

	"keelblock/api"
	"keelblock/exact"
	"keelblock/floating"
)

// P3.4 and P3.5

func TestCheckRefusal(t *testing.T) {
	springs := body(40, "-1", spring(0), spring(100))
	mixed := body(80, "75", pad(0), spring(40), pad(100))
	for i, x := range []struct {
		b api.Body
		r api.Refusal
		e api.Errno
	}{
		{springs, to("0", "-1"), api.OK},
		{springs, to("0", "-1/1000"), api.OK},
		{springs, to("-1/2", "-1"), api.OK},
		{springs, to("-1", "-1"), api.ErrProof},
		{springs, to("1/1000", "-1"), api.ErrProof},
		{springs, to("0", "1"), api.ErrProof},
		{springs, to("-1000000", "1"), api.ErrProof},
		{springs, to("0", "0"), api.ErrProof},
		{springs, api.Refusal{}, api.ErrProof},
		{springs, to("1", "0"), api.ErrProof},
		{springs, to("-1", "0"), api.ErrProof},
		{body(120, "50", pad(0), pad(100)), to("1", "0"), api.OK},
		{body(120, "50", pad(0), pad(100)), to("7/9", "0"), api.OK},
		{body(101, "50", pad(0), pad(100)), to("1", "0"), api.OK},
		{body(100, "50", pad(0), pad(100)), to("1", "0"), api.ErrProof},
		{body(80, "75", pad(0), pad(100)), to("0", "1"), api.OK},
		{body(80, "125/2", pad(0), pad(100)), to("0", "1"), api.ErrProof},
		{body(80, "313/5", pad(0), pad(100)), to("0", "1"), api.OK},
		// the spring at 40 must not be pressed, and what is released yields nothing
		{mixed, to("-40", "1"), api.ErrProof},
		{body(100, "75", pad(0), spring(40), pad(100)), to("-40", "1"), api.OK},
		{body(100, "75", pad(0), spring(40), pad(100)), to("-399999/10000", "1"), api.ErrProof},
		{body(100, "20", pad(0), spring(40), pad(100)), to("40", "-1"), api.ErrProof},
		{body(101, "20", pad(0), spring(40), pad(100)), to("40", "-1"), api.OK},
		{body(1, "0"), to("1", "0"), api.OK},
		{body(1, "5"), to("-4", "1"), api.OK},
		{body(1, "5"), to("-5", "1"), api.ErrProof},
	} {
		want(t, fmt.Sprint("refusal ", i), floating.CheckRefusal(x.b, x.r), x.e)
		other := api.Refusal{A: odd(x.r.A), B: odd(x.r.B)}
		want(t, fmt.Sprint("refusal ", i, " in another form"), floating.CheckRefusal(oddBody(x.b), other), x.e)
	}
}

func TestReserveExamples(t *testing.T) {
	pads := []api.Support{pad(0), pad(100)}
	springs := []api.Support{spring(0), spring(100)}
	for i, x := range []struct {
		b       api.Body
		x       int
		room    api.Rat
		limited bool
	}{
		{body(80, "50", pads...), 50, num("20"), true},
		{body(80, "50", pads...), 0, num("10"), true},
		{body(80, "50", pads...), 100, num("10"), true},
		{body(100, "50", pads...), 50, num("0"), true},
		{body(100, "50", pads...), 1000000, num("0"), true},
		// a weight beside the pads turns about the other one
		{body(80, "50", pads...), 200, num("5"), true},
		{body(80, "50", pads...), -50, num("20/3"), true},
		{body(80, "50", pads...), 40, num("50/3"), true},
		{body(40, "25", springs...), 0, api.Rat{}, false},
		{body(40, "25", springs...), 100, api.Rat{}, false},
		{body(40, "25", springs...), 101, num("3000"), true},
		{body(40, "25", springs...), -1000000, num("1/1000"), true},
		{body(40, "25", springs...), 1000000, num("10/3333"), true},
		{body(40, "0", springs...), -1, num("0"), true},
		{body(40, "0", springs...), 0, api.Rat{}, false},
		{body(6, "10", spring(10)), 10, api.Rat{}, false},
		{body(6, "10", spring(10)), 11, num("0"), true},
		{body(6, "10", spring(10)), -11, num("0"), true},
		{body(20, "20", pad(0), spring(40), pad(100)), 0, num("40"), true},
	} {
		for _, b := range []api.Body{x.b, oddBody(x.b)} {
			room, limited, e := floating.Reserve(b, x.x)
			want(t, fmt.Sprint("reserve ", i), room, x.room)
			want(t, fmt.Sprint("reserve ", i), limited, x.limited)
			want(t, fmt.Sprint("reserve ", i), e, api.OK)
		}
	}
}

func TestReserveErrors(t *testing.T) {
	for _, x := range []struct {
		b api.Body
		x int
		e api.Errno
	}{
		{body(80, "50", pad(0), pad(100)), 1000000, api.OK},
		{body(80, "50", pad(0), pad(100)), 1000001, api.ErrRange},
		{body(80, "50", pad(0), pad(100)), -1000000, api.OK},
		{body(80, "50", pad(0), pad(100)), -1000001, api.ErrRange},
		{body(120, "50", pad(0), pad(100)), -1000001, api.ErrRange},
		{body(120, "50", pad(0), pad(100)), 50, api.ErrSink},
		{body(120, "500", pad(0), pad(100)), 50, api.ErrSink},
		{body(80, "75", pad(0), pad(100)), 1000001, api.ErrRange},
		{body(80, "75", pad(0), pad(100)), 0, api.ErrTip},
		{body(40, "-1", spring(0), spring(100)), 50, api.ErrTip},
		{body(1, "0"), 0, api.ErrSink},
	} {
		room, limited, e := floating.Reserve(x.b, x.x)
		if x.e == api.OK {
			want(t, "the error", e, api.OK)
			continue
		}
		wantError(t, "Reserve", x.e, e, room, limited)
	}
}

// The reserve is the greatest weight for which no direction that the chapter names is a refusal.
func TestReserveBySecondOpinion(t *testing.T) {
	r := rand.New(rand.NewSource(7))
	limits, others := 0, 0
	for i := range 1500 {
		b, x := randomBody(r), r.Intn(23)-11
		if i%3 != 0 {
			b = restingBody(r)
		}
		room, limited, e := floating.Reserve(b, x)
		_, _, wanted := floating.Solve(b)
		if wanted == api.ErrSink || wanted == api.ErrTip {
			wantError(t, "Reserve", wanted, e, room, limited)
			continue
		}
		want(t, "the error", e, api.OK)
		what := fmt.Sprintf("%v with more at %d", b, x)
		if !limited {
			others++
			want(t, what, room, api.Rat{})
			want(t, what, carries(b, x, bigInt(1000000000)), true)
			continue
		}
		limits++
		most := bigOf(room)
		want(t, what+": the sign", most.Sign() >= 0, true)
		want(t, what+": the most", carries(b, x, most), true)
		want(t, what+": half of it", carries(b, x, mul(most, big.NewRat(1, 2))), true)
		want(t, what+": more", carries(b, x, plus(most, big.NewRat(1, 1000000000))), false)
	}
	if limits < 100 || others < 30 {
		t.Errorf("only %d bodies with a limit, %d without one", limits, others)
	}
}

// carries reports whether no direction is a refusal if a weight is added.
func carries(b api.Body, x int, added *big.Rat) bool {
	weight := plus(bigInt(b.Weight), added)
	moment := plus(mul(bigInt(b.Weight), bigOf(b.At)), mul(added, bigInt(x)))
	directions := []api.Refusal{to("1", "0")}
	for _, s := range b.Supports {
		directions = append(directions, api.Refusal{A: whole(-s.X), B: whole(1)}, api.Refusal{A: whole(s.X), B: whole(-1)})
	}
	for _, r := range directions {
		if isRefusal(b, weight, moment, r) {
			return false
		}
	}
	return true
}

// What Reserve allows can be added, if it is a whole number, and no more.
func TestReserveIsAdded(t *testing.T) {
	r := rand.New(rand.NewSource(8))
	count := 0
	for range 1000 {
		b, x := restingBody(r), r.Intn(21)-10
		room, limited, e := floating.Reserve(b, x)
		n, ok := exact.Small(exact.Floor(room))
		if e != api.OK || !limited || !ok || n > 1000000 {
			continue
		}
		count++
		more, e := floating.Add(b, n, x)
		want(t, "the error", e, api.OK)
		_, e = floating.Reactions(more)
		want(t, "the error of what is carried", e, api.OK)
		more, _ = floating.Add(b, n+1, x)
		_, e = floating.Reactions(more)
		want(t, "too much", e == api.ErrSink || e == api.ErrTip, true)
	}
	if count < 100 {
		t.Errorf("only %d bodies with a limit", count)
	}
}
