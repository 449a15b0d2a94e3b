package berth_test

import (
	"fmt"
	"math/big"
	"math/rand"
	"testing"

	"keelblock/api"
	"keelblock/berth"
)

func line(name string, x, y, toX, toY, most int) api.Line {
	return api.Line{Name: name, X: x, Y: y, ToX: toX, ToY: toY, Most: most}
}

// P6.7

func TestCheckLines(t *testing.T) {
	named := func(name string) api.Line { return line(name, 0, 0, 3000, 4000, 1000) }
	wantListErrors(t, berth.CheckLines, 12, named, func(name string) api.Line { return line(name, 0, 0, 1, 0, 0) }, api.ErrRange)
	wantListErrors(t, berth.CheckLines, 12, named, func(name string) api.Line { return line(name, 7, 8, 7, 8, 1) }, api.ErrZero)
	wantNumbers(t, named("Other"), line("L", 5, 6, 7, 8, 9), []numberOf[api.Line]{
		{"X", -1000000, 1000000, func(l *api.Line, n int) { l.X = n }},
		{"Y", -1000000, 1000000, func(l *api.Line, n int) { l.Y = n }},
		{"ToX", -1000000, 1000000, func(l *api.Line, n int) { l.ToX = n }},
		{"ToY", -1000000, 1000000, func(l *api.Line, n int) { l.ToY = n }},
		{"Most", 1, 1000000000, func(l *api.Line, n int) { l.Most = n }},
	}, berth.CheckLines)
	for _, x := range []struct {
		l api.Line
		e api.Errno
	}{
		{line("L", 5, 5, 5, 5, 1), api.ErrZero}, {line("L", 5, 5, 5, 6, 1), api.OK}, {line("L", 5, 5, 6, 5, 1), api.OK}, {line("L", 5, 6, 6, 5, 1), api.OK},
		{line("L", 0, 0, 0, 0, 1), api.ErrZero}, {line("L", 0, 0, 0, 0, 0), api.ErrRange}, {line("L", 1000001, 0, 1000001, 0, 1), api.ErrRange},
		{line("", 0, 0, 0, 0, 0), api.ErrName},
	} {
		want(t, fmt.Sprint(x.l), berth.CheckLines(once(x.l)), x.e)
		if x.e != api.OK {
			n, e := berth.Span(x.l)
			wantError(t, fmt.Sprint(x.l), x.e, e, n)
		}
	}
}

// secondSpan is the root of the square of the distance, rounded up.
func secondSpan(l api.Line) int {
	along, across := big.NewInt(int64(l.ToX-l.X)), big.NewInt(int64(l.ToY-l.Y))
	square := new(big.Int).Add(along.Mul(along, along), across.Mul(across, across))
	root := new(big.Int).Sqrt(square)
	if new(big.Int).Mul(root, root).Cmp(square) < 0 {
		root.Add(root, big.NewInt(1))
	}
	return int(root.Int64())
}

func TestSpan(t *testing.T) {
	for _, x := range []struct {
		l      api.Line
		wanted int
	}{
		{line("example-4", 0, 0, 3000, 4000, 1000), 5000},
		{line("L", 3000, 4000, 0, 0, 1), 5000},
		{line("L", 0, 0, 3000, 4001, 1), 5001},
		{line("L", 0, 0, 3000, 3999, 1), 5000},
		{line("L", 0, 0, 1, 0, 1), 1},
		{line("L", 0, 0, 0, -1, 1), 1},
		{line("L", 0, 0, 1, 1, 1), 2},
		{line("L", 0, 0, -1, 2, 1), 3},
		{line("L", 10, 20, 10, 22, 1), 2},
		{line("L", -1000000, 0, 1000000, 0, 1), 2000000},
		{line("L", -1000000, -1000000, 1000000, 1000000, 1), 2828428},
		{line("L", 1000000, -1000000, -1000000, 1000000, 1), 2828428},
		{line("L", 0, 0, 1048576, 0, 1), 0},
		{line("L", -48576, 0, 1000000, 0, 1), 1048576},
		{line("L", -48575, 0, 1000000, 0, 1), 1048575},
		{line("L", -48577, 0, 1000000, 0, 1), 1048577},
	} {
		n, e := berth.Span(x.l)
		if x.wanted == 0 {
			wantError(t, fmt.Sprint(x.l), api.ErrRange, e, n)
			continue
		}
		want(t, fmt.Sprint(x.l), []any{n, e}, []any{x.wanted, api.OK})
	}
	// near, far, and at distances that are integers, or just not
	r := rand.New(rand.NewSource(41))
	for range 20000 {
		size := []int{3, 100, 1000, 999999}[r.Intn(4)]
		l := line("L", between(r, -size, size), between(r, -size, size), between(r, -size, size), between(r, -size, size), 1)
		if r.Intn(2) == 0 {
			n := between(r, 1, 1+size/5)
			l.X, l.Y, l.ToX, l.ToY = 0, 0, 3*n, 4*n-r.Intn(3)
		}
		if l.X == l.ToX && l.Y == l.ToY {
			continue
		}
		n, e := berth.Span(l)
		want(t, fmt.Sprint(l), []any{n, e}, []any{secondSpan(l), api.OK})
	}
}
