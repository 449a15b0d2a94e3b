package berth_test

import (
	"fmt"
	"math/rand"
	"slices"
	"testing"

	"keelblock/api"
	"keelblock/berth"
)

// P6.3

func TestPlace(t *testing.T) {
	all := ships()
	for _, x := range []struct {
		what   string
		c      []api.Call
		wanted []api.Spot
		e      api.Errno
	}{
		{"example 1", all[:2], []api.Spot{spot("a", 2, 2), spot("b", 104, 2)}, api.OK},
		{"example 1, three ships", all, nil, api.ErrNone},
		{"the other order", []api.Call{all[1], all[0]}, []api.Spot{spot("b", 2, 2), spot("a", 84, 2)}, api.OK},
		{"nothing", nil, nil, api.OK},
		{"one", all[2:], []api.Spot{spot("c", 2, 2)}, api.OK},
		{"a long one", once(ship("a", 197, 1)), nil, api.ErrNone},
		{"a wide one", once(ship("a", 1, 37)), nil, api.ErrNone},
		{"the greatest one", once(ship("a", 196, 36)), []api.Spot{spot("a", 2, 2)}, api.OK},
		{"beside each other", []api.Call{ship("a", 150, 17), ship("b", 196, 17)}, []api.Spot{spot("a", 2, 2), spot("b", 2, 21)}, api.OK},
		{"too wide beside each other", []api.Call{ship("a", 150, 17), ship("b", 196, 18)}, nil, api.ErrNone},
		{"the first one makes room", []api.Call{ship("a", 50, 10), ship("b", 196, 20)}, []api.Spot{spot("a", 2, 2), spot("b", 2, 14)}, api.OK},
		{"four", []api.Call{ship("a", 97, 17), ship("b", 97, 17), ship("c", 97, 17), ship("d", 97, 17)},
			[]api.Spot{spot("a", 2, 2), spot("b", 2, 21), spot("c", 101, 2), spot("d", 101, 21)}, api.OK},
	} {
		s, e := berth.Place(dock(), x.c)
		want(t, x.what, []any{s, e}, []any{x.wanted, x.e})
	}
}

func TestPlaceOfTooManyShips(t *testing.T) {
	var c []api.Call
	for i := range 8 {
		c = append(c, ship(fmt.Sprint("S", i), 1, 1))
	}
	for n := range 9 {
		s, e := berth.Place(dock(), c[:n])
		if n > 4 {
			wantError(t, "many ships", api.ErrLarge, e, s)
		} else {
			want(t, "few ships", []any{len(s), e}, []any{n, api.OK})
		}
	}
	// that there are too many is said before that there is no plan
	c[0].Length = 1000
	s, e := berth.Place(dock(), c[:5])
	wantError(t, "many ships", api.ErrLarge, e, s)
}

// subsets returns the numbers, ascending, that are a gap plus the sum of a subset of sizes.
func subsets(gap int, sizes []int) []int {
	var out []int
	for set := range 1 << len(sizes) {
		sum := gap
		for i, size := range sizes {
			if set>>i&1 == 1 {
				sum += size + gap
			}
		}
		out = append(out, sum)
	}
	slices.Sort(out)
	return out
}

// secondPlace goes through all normal places of one ship after another.
func secondPlace(d api.Dock, c []api.Call, s []api.Spot) []api.Spot {
	if len(s) == len(c) {
		return s
	}
	i := len(s)
	var lengths, beams []int
	for j, x := range c {
		if j != i {
			lengths, beams = append(lengths, x.Length), append(beams, x.Beam)
		}
	}
	for _, x := range subsets(d.Gap, lengths) {
		for _, y := range subsets(d.Gap, beams) {
			more := append(slices.Clone(s), spot(c[i].Name, x, y))
			if berth.CheckPlan(d, c[:i+1], more) != api.OK {
				continue
			}
			if found := secondPlace(d, c, more); found != nil {
				return found
			}
		}
	}
	return nil
}

// anyPlan reports whether a plan is right that may have any places.
func anyPlan(d api.Dock, c []api.Call, s []api.Spot) bool {
	if len(s) == len(c) {
		return true
	}
	i := len(s)
	for x := range d.Length {
		for y := range d.Width {
			more := append(slices.Clone(s), spot(c[i].Name, x, y))
			if berth.CheckPlan(d, c[:i+1], more) == api.OK && anyPlan(d, c, more) {
				return true
			}
		}
	}
	return false
}

// randomDock has ships that fit, or just do not fit.
func randomDock(r *rand.Rand, most int) (api.Dock, []api.Call) {
	d := api.Dock{Name: "D", Length: between(r, 3, 9), Width: between(r, 3, 8), Gap: r.Intn(2)}
	var c []api.Call
	for i := range between(r, 1, most) {
		c = append(c, ship(fmt.Sprint("S", i), between(r, 1, 5), between(r, 1, 4)))
	}
	return d, c
}

func TestPlaceBySecondOpinion(t *testing.T) {
	r := rand.New(rand.NewSource(13))
	count := map[string]int{}
	for range 6000 {
		d, c := randomDock(r, 4)
		wanted := secondPlace(d, c, nil)
		s, e := berth.Place(d, c)
		if wanted == nil {
			wantError(t, fmt.Sprint(d, c), api.ErrNone, e, s)
		} else {
			want(t, fmt.Sprint(d, c), []any{s, e}, []any{wanted, api.OK})
			want(t, fmt.Sprint(d, c), berth.CheckPlan(d, c, s), api.OK)
		}
		count[fmt.Sprint(len(c), e)]++
	}
	for n := 1; n <= 4; n++ {
		for _, e := range []api.Errno{api.OK, api.ErrNone} {
			if count[fmt.Sprint(n, e)] < 100 {
				t.Error(count)
			}
		}
	}
}

// P6.8: Place finds a plan if there is one.
func TestPlaceFindsAPlan(t *testing.T) {
	r := rand.New(rand.NewSource(14))
	count := map[bool]int{}
	for range 1500 {
		d, c := randomDock(r, 3)
		there := anyPlan(d, c, nil)
		if _, e := berth.Place(d, c); (e == api.OK) != there {
			t.Error(d, c, e, there)
		}
		count[there]++
	}
	if count[true] < 200 || count[false] < 200 {
		t.Error(count)
	}
}

// P6.8: every ship leaves unblocked in the order of LeaveOrder.
func TestShipsLeaveUnblocked(t *testing.T) {
	r := rand.New(rand.NewSource(15))
	for range 1000 {
		d, c := randomDock(r, 4)
		s, e := berth.Place(d, c)
		if e != api.OK {
			continue
		}
		names, _ := berth.LeaveOrder(d, c, s)
		for _, name := range names {
			pairs, e := berth.Blocks(d, c, s)
			if e != api.OK || slices.ContainsFunc(pairs, func(p [2]string) bool { return p[1] == name }) {
				t.Error(d, c, names, pairs, e)
			}
			c = slices.DeleteFunc(c, func(x api.Call) bool { return x.Name == name })
			s = slices.DeleteFunc(s, func(p api.Spot) bool { return p.Call == name })
		}
	}
}
