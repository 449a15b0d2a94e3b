package common_test

import (
	"reflect"
	"testing"

	"keelblock/api"
	"keelblock/common"
	"keelblock/exact"
)

func TestIsName(t *testing.T) {
	for name, wanted := range map[string]bool{
		"a": true, "Z": true, "a1-": true, "Abcdefghi-99": true, "a-------zAZ0": true,
		"": false, "1": false, "-a": false, "Abcdefghi-999": false, "a b": false, "a_": false, "a/": false, "a:": false,
		"a@": false, "a[": false, "a`": false, "a{": false, "@": false, "[": false, "`": false, "{": false, "aé": false, "é": false, "a\n": false,
	} {
		if common.IsName(name) != wanted {
			t.Errorf("%q is a name: %v", name, !wanted)
		}
	}
}

func TestBounds(t *testing.T) {
	for n, wanted := range map[int]bool{-1000001: false, -1000000: true, 0: true, 1000000: true, 1000001: false} {
		if common.IsPlace(n) != wanted {
			t.Errorf("%d is a place: %v", n, !wanted)
		}
	}
	for n, wanted := range map[int]bool{2: false, 3: true, 4: true, 5: true, 6: false} {
		if common.Within(n, 3, 5) != wanted {
			t.Errorf("%d is within 3 and 5: %v", n, !wanted)
		}
	}
}

func TestFirstError(t *testing.T) {
	if e := common.FirstError(api.OK, api.ErrTip, api.OK, api.ErrSink); e != api.ErrTip {
		t.Errorf("the first error is %d", e)
	}
	if e := common.FirstError(api.OK, api.OK); e != api.OK {
		t.Errorf("no error is %d", e)
	}
}

func TestNumbers(t *testing.T) {
	half := common.Ratio(-3, 6)
	for _, x := range []struct {
		got    api.Rat
		wanted string
	}{
		{half, "-1/2"}, {common.Whole(-7), "-7"}, {common.Times(half, 3), "-3/2"},
		{common.Product(), "1"}, {common.Product(-6, 7), "-42"}, {common.Product(5, 0, 9), "0"},
		{common.Product(1000000000, 1000000000, -3000000000), "-3000000000000000000000000000"}, {common.Over(half, common.Whole(-2)), "1/4"},
	} {
		if text := exact.FormatRat(x.got); text != x.wanted {
			t.Errorf("%s, want %s", text, x.wanted)
		}
	}
	odd := api.Rat{Num: api.Int{Neg: true, Limbs: []uint16{6, 0}}, Den: api.Int{Limbs: []uint16{4, 0, 0}}}
	for _, x := range []struct {
		got    api.Rat
		wanted string
	}{
		{common.Normal(odd), "-3/2"}, {common.Normal(api.Rat{}), "0"}, {common.Sum(nil), "0"}, {common.Sum([]api.Rat{odd, half, {}, common.Whole(5)}), "3"},
	} {
		text := exact.FormatRat(x.got)
		normal, _ := exact.ParseRat(text)
		if text != x.wanted || !reflect.DeepEqual(x.got, normal) {
			t.Errorf("%v, want %s", x.got, x.wanted)
		}
	}
	if common.Sign(half) != -1 || common.Sign(api.Rat{}) != 0 || common.Sign(common.Whole(5)) != 1 {
		t.Error("a wrong sign")
	}
}

// An item of a list has a name, and an error of its own.
type item struct {
	name string
	e    api.Errno
}

func TestListError(t *testing.T) {
	ok := func(name string) item { return item{name: name} }
	for _, x := range []struct {
		what   string
		l      []item
		wanted api.Errno
	}{
		{"nothing", nil, api.OK},
		{"as many as there may be", []item{ok("a"), ok("b"), ok("A")}, api.OK},
		{"too many", []item{ok("a"), ok("b"), ok("c"), ok("d")}, api.ErrLarge},
		{"too many before a name", make([]item, 4), api.ErrLarge},
		{"a name", []item{ok("a"), ok("1")}, api.ErrName},
		{"a name before an error", []item{{"", api.ErrTip}}, api.ErrName},
		{"a name twice", []item{ok("a"), ok("b"), ok("a")}, api.ErrExists},
		{"a name twice before an error", []item{ok("a"), {"a", api.ErrTip}}, api.ErrExists},
		{"an error", []item{ok("a"), ok("b"), {"c", api.ErrTip}}, api.ErrTip},
		{"an error before the next name", []item{ok("a"), {"b", api.ErrTip}, ok("")}, api.ErrTip},
		{"an error before the same name", []item{{"a", api.ErrTip}, ok("a")}, api.ErrTip},
		{"the first one of two errors", []item{{"a", api.ErrTip}, {"b", api.ErrSink}}, api.ErrTip},
	} {
		e := common.ListError(x.l, 3, func(i item) string { return i.name }, func(i item) api.Errno { return i.e })
		if e != x.wanted {
			t.Errorf("%s: %d, want %d", x.what, e, x.wanted)
		}
	}
}

func TestCopyShip(t *testing.T) {
	ship := func() api.Ship {
		return api.Ship{
			Name:     "S",
			Stations: []api.Station{{X: 1, Levels: []int{2, 3}, Halves: []int{4}}, {X: 5, Levels: []int{6, 7}, Halves: []int{8}}},
			Items:    []api.Load{{Name: "Oil"}},
		}
	}
	s := ship()
	out := common.CopyShip(s)
	if !reflect.DeepEqual(out, s) {
		t.Errorf("%v is copied as %v", s, out)
	}
	out.Stations[0].X, out.Stations[0].Levels[0], out.Stations[1].Halves[0] = 9, 9, 9
	out.Items[0].Name = "Other"
	if !reflect.DeepEqual(s, ship()) {
		t.Errorf("a change of the copy makes %v of the ship", s)
	}
}
