package hull_test

import (
	"fmt"
	"math"
	"testing"

	"keelblock/api"
	"keelblock/hull"
)

// P2.5

func TestLoads(t *testing.T) {
	c, e := hull.Loads(barge())
	want(t, "Loads of the barge", []any{c, e}, []any{api.Centre{Mass: 320000, X: num("10000"), Z: num("2000")}, api.OK})
	// (810000000 - 750000 + 28014000 + 42000000) and (153000000 + 450000 - 40020 + 2700000) for 96501
	c, e = hull.Loads(tug())
	want(t, "Loads of the tug", []any{c, e}, []any{api.Centre{Mass: 96501, X: num("293088000/32167"), Z: num("52036660/32167"), Free: 23}, api.OK})
	s := barge()
	s.Light.Mass = 1
	s.Items = []api.Load{{Name: "None", X: 5, Z: 5, Free: 4}, {Name: "Two", Mass: 2, X: -20000, Z: -4000}}
	c, e = hull.Loads(s)
	want(t, "Loads on both sides of 0", []any{c, e}, []any{api.Centre{Mass: 3, X: num("-10000"), Z: num("-2000"), Free: 4}, api.OK})
	c, e = hull.Loads(greatest())
	want(t, "Loads of the greatest ship", []any{c, e}, []any{api.Centre{Mass: 61000000000, X: num("1000000"), Z: num("100000"), Free: 61000000000}, api.OK})
}

func TestWith(t *testing.T) {
	l := api.Load{Name: "More", Mass: 1, X: 2, Z: 3, Free: 4}
	wanted := tug()
	wanted.Items = append(wanted.Items, l)
	s, e := hull.With(tug(), l)
	want(t, "With", []any{s, e}, []any{wanted, api.OK})
	s, e = hull.With(barge(), l)
	wanted = barge()
	wanted.Items = []api.Load{l}
	want(t, "With to no items", []any{s, e}, []any{wanted, api.OK})
	for _, x := range []struct {
		l      api.Load
		wanted api.Errno
	}{
		{api.Load{Name: "2"}, api.ErrName}, {api.Load{}, api.ErrName},
		{api.Load{Name: "Light"}, api.ErrExists}, {api.Load{Name: "Fuel"}, api.ErrExists}, {api.Load{Name: "Oil", Mass: -1}, api.ErrExists},
		{api.Load{Name: "Tug-2"}, api.OK}, {api.Load{Name: "A", Mass: 1000000001}, api.ErrRange}, {api.Load{Name: "A", Z: math.MaxInt}, api.ErrRange},
	} {
		s, e := hull.With(tug(), x.l)
		if x.wanted != api.OK {
			wantError(t, fmt.Sprint("With ", x.l), x.wanted, e, s)
		}
		want(t, fmt.Sprint("the error of With ", x.l), e, x.wanted)
	}
}

func TestWithSixtyItems(t *testing.T) {
	full := tug()
	items(59)(&full)
	full, e := hull.With(full, api.Load{Name: "Last"})
	want(t, "With to 59 items", []any{len(full.Items), e}, []any{60, api.OK})
	s, e := hull.With(full, api.Load{Name: "Last", Mass: -1})
	wantError(t, "With to 60 items", api.ErrLarge, e, s)
	full.Items[0].Name = ""
	s, e = hull.With(full, api.Load{Name: "More"})
	wantError(t, "With to 60 items with a bad one", api.ErrName, e, s)
}

func TestWithout(t *testing.T) {
	for i, l := range tug().Items {
		wanted := tug()
		wanted.Items = append(wanted.Items[:i:i], wanted.Items[i+1:]...)
		s, e := hull.Without(tug(), l.Name)
		want(t, "Without "+l.Name, []any{s, e}, []any{wanted, api.OK})
	}
	for _, name := range []string{"Light", "Tug-2", "", "oil", "Oi", "Oil ", "nothing"} {
		s, e := hull.Without(tug(), name)
		wantError(t, "Without "+name, api.ErrMissing, e, s)
		s, e = hull.Without(barge(), name)
		wantError(t, "Without of no items "+name, api.ErrMissing, e, s)
	}
}

func TestMove(t *testing.T) {
	for i, l := range tug().Items {
		for _, x := range [][2]int{{1, 2}, {-1000000, -100000}, {1000000, 100000}, {l.X, l.Z}} {
			wanted := tug()
			wanted.Items[i].X, wanted.Items[i].Z = x[0], x[1]
			s, e := hull.Move(tug(), l.Name, x[0], x[1])
			want(t, "Move of "+l.Name, []any{s, e}, []any{wanted, api.OK})
		}
	}
	for _, name := range []string{"Light", "Tug-2", "", "crane", "nothing"} {
		s, e := hull.Move(tug(), name, 1, 2)
		wantError(t, "Move of "+name, api.ErrMissing, e, s)
		s, e = hull.Move(tug(), name, 1000001, 2)
		wantError(t, "Move too far of "+name, api.ErrMissing, e, s)
	}
	for _, x := range [][2]int{{1000001, 0}, {-1000001, 0}, {0, 100001}, {0, -100001}, {math.MinInt, 0}, {0, math.MaxInt}} {
		s, e := hull.Move(tug(), "Crane", x[0], x[1])
		wantError(t, fmt.Sprint("Move to ", x), api.ErrRange, e, s)
	}
}
