package berth_test

import (
	"fmt"
	"math"
	"math/rand"
	"slices"
	"testing"

	"keelblock/api"
	"keelblock/berth"
)

// ships are those of the chapter's first example.
func ships() []api.Call {
	return []api.Call{ship("a", 100, 30), ship("b", 80, 30), ship("c", 60, 30)}
}

func spot(name string, x, y int) api.Spot { return api.Spot{Call: name, X: x, Y: y} }

// P6.2

func TestCheckPlan(t *testing.T) {
	at := func(l ...api.Spot) []api.Spot { return l }
	a, b := spot("a", 2, 2), spot("b", 104, 2)
	for _, x := range []struct {
		what string
		s    []api.Spot
		e    api.Errno
	}{
		{"example 1", at(a, b), api.OK},
		{"the other order", at(b, a), api.OK},
		{"no spots", nil, api.ErrShape},
		{"few spots", at(a), api.ErrShape},
		{"many spots", at(a, b, a), api.ErrShape},
		{"the shape before a ship", at(spot("?", -1, -1)), api.ErrShape},
		{"no such ship", at(a, spot("d", 104, 2)), api.ErrMissing},
		{"names are not folded", at(a, spot("B", 104, 2)), api.ErrMissing},
		{"no such ship before its place", at(spot("", -1, 2), b), api.ErrMissing},
		{"a ship twice", at(a, a), api.ErrExists},
		{"a ship twice before its place", at(a, spot("a", -1, 2)), api.ErrExists},
		{"a place before the next ship", at(spot("a", -1, 2), spot("?", 2, 2)), api.ErrRange},
		{"X below", at(spot("a", -1, 2), b), api.ErrRange},
		{"X least", at(spot("a", 0, 2), b), api.ErrLimit},
		{"X greatest", at(spot("a", 1000000, 2), b), api.ErrLimit},
		{"X above", at(spot("a", 1000001, 2), b), api.ErrRange},
		{"X far above", at(spot("a", math.MaxInt, 2), b), api.ErrRange},
		{"X far below", at(spot("a", math.MinInt, 2), b), api.ErrRange},
		{"Y below", at(a, spot("b", 104, -1)), api.ErrRange},
		{"Y least", at(a, spot("b", 104, 0)), api.ErrLimit},
		{"Y greatest", at(a, spot("b", 104, 1000000)), api.ErrLimit},
		{"Y above", at(a, spot("b", 104, 1000001)), api.ErrRange},
		{"Y far above", at(a, spot("b", 104, math.MaxInt)), api.ErrRange},
		{"no gap at the gate", at(spot("a", 1, 2), b), api.ErrLimit},
		{"no gap at the side", at(spot("a", 2, 1), b), api.ErrLimit},
		{"the gap at the end", at(a, spot("b", 118, 2)), api.OK},
		{"no gap at the end", at(a, spot("b", 119, 2)), api.ErrLimit},
		{"the gap at the other side", at(a, spot("b", 104, 8)), api.OK},
		{"no gap at the other side", at(a, spot("b", 104, 9)), api.ErrLimit},
		{"a limit before the next ship", at(spot("a", 101, 2), spot("a", 2, 2)), api.ErrLimit},
		{"a limit before a clash", at(a, spot("b", 2, 9)), api.ErrLimit},
		{"no gap between", at(a, spot("b", 103, 2)), api.ErrClash},
		{"no gap between, from the other one", at(spot("b", 2, 2), spot("a", 83, 8)), api.ErrClash},
		{"the gap between, from the other one", at(spot("b", 2, 2), spot("a", 84, 8)), api.OK},
		{"the same place", at(a, spot("b", 2, 2)), api.ErrClash},
	} {
		want(t, x.what, berth.CheckPlan(dock(), ships()[:2], x.s), x.e)
		if x.e != api.OK {
			pairs, e := berth.Blocks(dock(), ships()[:2], x.s)
			wantError(t, "Blocks with "+x.what, x.e, e, pairs)
			names, e := berth.LeaveOrder(dock(), ships()[:2], x.s)
			wantError(t, "LeaveOrder with "+x.what, x.e, e, names)
		}
	}
	short := []api.Call{ship("a", 1, 1), ship("b", 1, 1)}
	want(t, "a short ship twice", berth.CheckPlan(dock(), short, at(a, a)), api.ErrExists)
	want(t, "nothing", berth.CheckPlan(dock(), nil, nil), api.OK)
	want(t, "no ships", berth.CheckPlan(dock(), nil, at(a)), api.ErrShape)
}

// Ships beside each other are apart across the dock.
func TestCheckPlanAcross(t *testing.T) {
	d := api.Dock{Name: "D", Length: 20, Width: 20, Gap: 3}
	c := []api.Call{ship("a", 10, 4), ship("b", 5, 5), ship("c", 1, 1)}
	for _, x := range []struct {
		a, b, c [2]int
		e       api.Errno
	}{
		{[2]int{3, 3}, [2]int{3, 10}, [2]int{16, 3}, api.OK},
		{[2]int{3, 3}, [2]int{3, 9}, [2]int{16, 3}, api.ErrClash},
		{[2]int{3, 3}, [2]int{3, 10}, [2]int{15, 3}, api.ErrClash},
		{[2]int{3, 3}, [2]int{12, 12}, [2]int{16, 8}, api.OK},
		{[2]int{3, 3}, [2]int{12, 12}, [2]int{16, 9}, api.ErrClash},
		{[2]int{3, 3}, [2]int{3, 12}, [2]int{11, 14}, api.OK},
		{[2]int{3, 3}, [2]int{3, 12}, [2]int{10, 14}, api.ErrClash},
		{[2]int{3, 13}, [2]int{3, 5}, [2]int{11, 5}, api.OK},
		{[2]int{3, 13}, [2]int{3, 6}, [2]int{11, 5}, api.ErrClash},
	} {
		s := []api.Spot{spot("c", x.c[0], x.c[1]), spot("a", x.a[0], x.a[1]), spot("b", x.b[0], x.b[1])}
		want(t, fmt.Sprint(x), berth.CheckPlan(d, c, s), x.e)
	}
}

// spotOf returns the spot of a ship in a plan that has one.
func spotOf(s []api.Spot, name string) api.Spot {
	return s[slices.IndexFunc(s, func(p api.Spot) bool { return p.Call == name })]
}

// secondRight looks at cells of a millimetre by a millimetre: a plan is right if no ship has one that
// is less than the gap from a side, or from a cell of another ship in both directions.
func secondRight(d api.Dock, c []api.Call, s []api.Spot) bool {
	far := func(from, to int) int { return max(from-to, to-from) - 1 }
	for i, a := range c {
		for _, p := range cellsOf(a, spotOf(s, a.Name)) {
			if min(p[0], d.Length-1-p[0], p[1], d.Width-1-p[1]) < d.Gap {
				return false
			}
			for _, b := range c[:i] {
				for _, q := range cellsOf(b, spotOf(s, b.Name)) {
					if far(p[0], q[0]) < d.Gap && far(p[1], q[1]) < d.Gap {
						return false
					}
				}
			}
		}
	}
	return true
}

func cellsOf(c api.Call, s api.Spot) [][2]int {
	var out [][2]int
	for x := range c.Length {
		for y := range c.Beam {
			out = append(out, [2]int{s.X + x, s.Y + y})
		}
	}
	return out
}

// secondBlocks looks for a cell of a ship that is on the way of another one.
func secondBlocks(d api.Dock, c []api.Call, s []api.Spot) [][2]string {
	var out [][2]string
	for _, a := range c {
		for _, b := range c {
			to := spotOf(s, b.Name)
			onWay := func(p [2]int) bool {
				return 0 <= p[0] && p[0] < to.X && to.Y-d.Gap <= p[1] && p[1] < to.Y+b.Beam+d.Gap
			}
			if a.Name != b.Name && slices.ContainsFunc(cellsOf(a, spotOf(s, a.Name)), onWay) {
				out = append(out, [2]string{a.Name, b.Name})
			}
		}
	}
	return out
}

// secondLeave goes through all orders.
func secondLeave(c []api.Call, pairs [][2]string) []string {
	var order func(gone, rest []string) []string
	order = func(gone, rest []string) []string {
		if len(rest) == 0 {
			return gone
		}
		for i, name := range rest {
			others := slices.Concat(rest[:i], rest[i+1:])
			if slices.ContainsFunc(pairs, func(p [2]string) bool { return p[1] == name && slices.Contains(others, p[0]) }) {
				continue
			}
			if found := order(append(slices.Clone(gone), name), others); found != nil {
				return found
			}
		}
		return nil
	}
	var names []string
	for _, x := range c {
		names = append(names, x.Name)
	}
	return order(nil, names)
}

// randomPlan is a small dock with ships at random places, of which most are within it.
func randomPlan(r *rand.Rand) (api.Dock, []api.Call, []api.Spot) {
	d := api.Dock{Name: "D", Length: between(r, 6, 16), Width: between(r, 4, 12), Gap: r.Intn(3) * r.Intn(2)}
	var c []api.Call
	var s []api.Spot
	for i := range between(r, 1, 5) {
		c = append(c, ship(fmt.Sprint("S", i), between(r, 1, 4), between(r, 1, 4)))
		s = append(s, spot(c[i].Name, r.Intn(max(1, d.Length-c[i].Length+1-d.Gap)), r.Intn(max(1, d.Width-c[i].Beam+1-d.Gap))))
	}
	r.Shuffle(len(s), func(i, j int) { s[i], s[j] = s[j], s[i] })
	return d, c, s
}

func TestPlansBySecondOpinion(t *testing.T) {
	r := rand.New(rand.NewSource(12))
	count := map[string]int{}
	for range 20000 {
		d, c, s := randomPlan(r)
		right := secondRight(d, c, s)
		what := fmt.Sprint(d, c, s)
		if e := berth.CheckPlan(d, c, s); (e == api.OK) != right {
			t.Error(what, e)
		} else if !right {
			count[fmt.Sprint("error ", e)]++
			continue
		}
		wanted := secondBlocks(d, c, s)
		pairs, e := berth.Blocks(d, c, s)
		want(t, what, []any{pairs, e}, []any{wanted, api.OK})
		names, e := berth.LeaveOrder(d, c, s)
		want(t, what, []any{names, e}, []any{secondLeave(c, wanted), api.OK})
		count[fmt.Sprint(min(len(wanted), 3))]++
		if names[0] != c[0].Name {
			count["not the first"]++
		}
	}
	for _, name := range []string{"0", "1", "2", "3", "not the first", fmt.Sprint("error ", api.ErrClash), fmt.Sprint("error ", api.ErrLimit)} {
		if count[name] < 200 {
			t.Error(count)
		}
	}
}

func TestBlocks(t *testing.T) {
	a, b := spot("a", 2, 2), spot("b", 104, 2)
	for _, s := range [][]api.Spot{{a, b}, {b, a}} {
		pairs, e := berth.Blocks(dock(), ships()[:2], s)
		want(t, "example 1", []any{pairs, e}, []any{[][2]string{{"a", "b"}}, api.OK})
		names, e := berth.LeaveOrder(dock(), ships()[:2], s)
		want(t, "example 1", []any{names, e}, []any{[]string{"a", "b"}, api.OK})
	}
	d := api.Dock{Name: "D", Length: 100, Width: 30, Gap: 2}
	c := []api.Call{ship("far", 10, 5), ship("near", 10, 5), ship("aside", 10, 5)}
	for _, x := range []struct {
		what  string
		near  int // its Y, where that of the far one is 12
		pairs [][2]string
		names []string
	}{
		{"beside the way", 5, nil, []string{"far", "near", "aside"}},
		{"on its edge", 6, [][2]string{{"near", "far"}}, []string{"near", "far", "aside"}},
		{"on its other edge", 18, [][2]string{{"near", "far"}}, []string{"near", "far", "aside"}},
		{"beside the way on the other side", 19, nil, []string{"far", "near", "aside"}},
	} {
		s := []api.Spot{spot("far", 70, 12), spot("near", 20, x.near), spot("aside", 84, 22)}
		if x.near > 12 {
			s[2].Y = 2
		}
		pairs, e := berth.Blocks(d, c, s)
		want(t, x.what, []any{pairs, e}, []any{x.pairs, api.OK})
		names, e := berth.LeaveOrder(d, c, s)
		want(t, x.what, []any{names, e}, []any{x.names, api.OK})
	}
	// without a gap ships that touch are on no way of each other, or at the gate itself
	d.Gap = 0
	s := []api.Spot{spot("far", 10, 5), spot("near", 0, 5), spot("aside", 0, 10)}
	pairs, e := berth.Blocks(d, c, s)
	want(t, "no gap", []any{pairs, e}, []any{[][2]string{{"near", "far"}}, api.OK})
	names, e := berth.LeaveOrder(d, nil, nil)
	want(t, "nothing", []any{names, e}, []any{[]string(nil), api.OK})
	pairs, e = berth.Blocks(d, nil, nil)
	want(t, "nothing", []any{pairs, e}, []any{[][2]string(nil), api.OK})
}

// Pairs come in the order of the ships, not of their names or places.
func TestBlocksInTheOrderOfTheShips(t *testing.T) {
	d := api.Dock{Name: "D", Length: 100, Width: 10}
	c := []api.Call{ship("c", 10, 10), ship("a", 10, 10), ship("d", 10, 10), ship("b", 10, 10)}
	s := []api.Spot{spot("a", 0, 0), spot("b", 20, 0), spot("c", 30, 0), spot("d", 10, 0)}
	pairs, e := berth.Blocks(d, c, s)
	want(t, "the pairs", []any{pairs, e}, []any{[][2]string{{"a", "c"}, {"a", "d"}, {"a", "b"}, {"d", "c"}, {"d", "b"}, {"b", "c"}}, api.OK})
	names, e := berth.LeaveOrder(d, c, s)
	want(t, "the order", []any{names, e}, []any{[]string{"a", "d", "b", "c"}, api.OK})
}

// The first order takes the first ship that can leave, which need not be the one nearest to the gate.
func TestLeaveOrderIsTheFirstOne(t *testing.T) {
	d := api.Dock{Name: "D", Length: 100, Width: 20}
	c := []api.Call{ship("a", 10, 10), ship("b", 10, 10), ship("c", 10, 10), ship("d", 10, 10)}
	s := []api.Spot{spot("a", 50, 0), spot("b", 50, 10), spot("c", 0, 10), spot("d", 30, 0)}
	names, e := berth.LeaveOrder(d, c, s)
	want(t, "the order", []any{names, e}, []any{[]string{"c", "b", "d", "a"}, api.OK})
}
