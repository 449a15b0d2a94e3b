package hull_test

import (
	"fmt"
	"math"
	"testing"

	"keelblock/api"
	"keelblock/hull"
)

// P2.6

func stable(l ...string) api.Stable {
	n := nums(l...)
	return api.Stable{KM: n[0], KG: n[1], GM: n[2], Other: n[3]}
}

// withTank is the barge with free surfaces of 160 kg m.
func withTank() api.Ship {
	s := barge()
	s.Light.Free = 100
	s.Items = []api.Load{{Name: "Tank", Mass: 80000, X: 0, Z: 3000, Free: 60}}
	return s
}

func TestStability(t *testing.T) {
	for _, x := range []struct {
		what     string
		s        api.Ship
		upthrust string
		wanted   api.Stable
	}{
		{"without upthrust", barge(), "0", stable("11000/3", "2000", "5000/3", "5000/3")},
		{"with that of the example", barge(), "80000", stable("11000/3", "2000", "750", "1000")},
		{"with a third of a kilogram", barge(), "1/3", stable("11000/3", "2000", "4799989/2880", "4799989000/2879997")},
		{"with nearly the whole mass", barge(), "319999", stable("11000/3", "2000", "-1919989/960", "-1919989000/3")},
		{"with free surfaces", withTank(), "0", stable("11000/3", "2200", "21994/15", "21994/15")},
		{"with free surfaces and upthrust", withTank(), "100000", stable("11000/3", "2200", "2748/5", "3664/5")},
	} {
		for _, density := range []int{900, 1000, 1100} {
			w := api.Raised{Density: density, Upthrust: num(x.upthrust)}
			r, e := hull.Stability(x.s, at("2000", "0"), w)
			want(t, x.what, []any{r, e}, []any{x.wanted, api.OK})
			w.Upthrust = odd(w.Upthrust)
			r, e = hull.Stability(x.s, oddAt(at("2000", "0")), w)
			want(t, x.what+" in another representation", []any{r, e}, []any{x.wanted, api.OK})
		}
	}
	r, e := hull.Stability(barge(), at("2000", "0"), api.Raised{Density: 1000})
	want(t, "without a number", []any{r, e}, []any{stable("11000/3", "2000", "5000/3", "5000/3"), api.OK})
	// nothing is at the water then: the metacentre is the centre of buoyancy
	r, e = hull.Stability(barge(), at("3000", "0"), api.Raised{Density: 1000})
	want(t, "below the water", []any{r, e}, []any{stable("1500", "2000", "-500", "-500"), api.OK})
}

func TestErrorsOfStability(t *testing.T) {
	for _, x := range []struct {
		sink     string
		density  int
		upthrust string
		wanted   api.Errno
	}{
		{"2000", 899, "-1", api.ErrRange}, {"2000", 1101, "-1", api.ErrRange}, {"0", 899, "-1", api.ErrRange},
		{"0", 1000, "-1", api.ErrNone}, {"-5", 1000, "320000", api.ErrNone}, {"0", 1000, "1", api.ErrNone},
		{"2000", 1000, "-1", api.ErrLimit}, {"2000", 1000, "-1/1000000", api.ErrLimit},
		{"2000", 1000, "320000", api.ErrLimit}, {"2000", 1000, "3200001/10", api.ErrLimit},
		{"2000", 1000, "100000000000000000000", api.ErrLimit}, {"2000", 1000, "-100000000000000000000", api.ErrLimit},
		{"2000", 1000, "3199999/10", api.OK}, {"2000", 900, "0", api.OK}, {"1/9", 1100, "0", api.OK},
	} {
		for _, u := range []api.Rat{num(x.upthrust), odd(num(x.upthrust))} {
			r, e := hull.Stability(barge(), at(x.sink, "0"), api.Raised{Density: x.density, Upthrust: u})
			if x.wanted != api.OK {
				wantError(t, fmt.Sprint("Stability of ", x), x.wanted, e, r)
			}
			want(t, fmt.Sprint("the error of Stability of ", x), e, x.wanted)
		}
	}
	// the mass that counts is that of all loads, not what the water carries
	r, e := hull.Stability(withTank(), at("1", "0"), api.Raised{Density: 1000, Upthrust: num("399999")})
	want(t, "Stability of a ship that is held", []any{r.KG, e}, []any{num("2200"), api.OK})
	r, e = hull.Stability(withTank(), at("1", "0"), api.Raised{Density: 1000, Upthrust: num("400000")})
	wantError(t, "Stability of a ship that does not float", api.ErrLimit, e, r)
}

func incline(s api.Ship, pendulum int, l ...api.Shift) api.Incline {
	return api.Incline{Ship: s, Attitude: at("2000", "0"), Density: 1000, Pendulum: pendulum, Shifts: l}
}

func TestExperiment(t *testing.T) {
	right := api.Shift{Mass: 8000, Distance: 5000, Deflection: 225}
	left := api.Shift{Mass: 8000, Distance: -5000, Deflection: -224}
	back := api.Shift{Mass: 4000, Distance: 5000}
	var many []api.Shift
	for range 40 {
		many = append(many, api.Shift{Mass: 100000000, Distance: -100000, Deflection: -100000})
	}
	for _, x := range []struct {
		what   string
		t      api.Incline
		wanted api.Stable
	}{
		{"the example", incline(barge(), 3000, right), stable("11000/3", "2000", "5000/3", "5000/3")},
		{"three shifts", incline(barge(), 3000, right, left, back), stable("11000/3", "603686000/302403", "168375000/100801", "168375000/100801")},
		{"a wrong direction", incline(barge(), 1, api.Shift{Mass: 320000, Distance: 2, Deflection: -2}), stable("11000/3", "11003/3", "-1", "-1")},
		{"no mass", incline(barge(), 100000, api.Shift{Deflection: 1}), stable("11000/3", "11000/3", "0", "0")},
		{"the greatest shifts", incline(barge(), 100000, many...), stable("11000/3", "-93739000/3", "31250000", "31250000")},
		{"free surfaces", incline(withTank(), 3000, right), stable("11000/3", "3999/2", "5000/3", "10003/6")},
	} {
		r, e := hull.Experiment(x.t)
		want(t, x.what, []any{r, e}, []any{x.wanted, api.OK})
		x.t.Attitude = oddAt(x.t.Attitude)
		r, e = hull.Experiment(x.t)
		want(t, x.what+" in another representation", []any{r, e}, []any{x.wanted, api.OK})
	}
	dense := incline(barge(), 3000, right)
	dense.Density = 1100
	r, e := hull.Experiment(dense)
	want(t, "denser water", []any{r, e}, []any{stable("11000/3", "71000/33", "50000/33", "50000/33"), api.OK})
}

func TestErrorsOfExperiment(t *testing.T) {
	good := api.Shift{Mass: 1, Distance: 1, Deflection: 1}
	for _, x := range []struct {
		what   string
		change func(t *api.Incline)
		wanted api.Errno
	}{
		{"nothing else", func(t *api.Incline) {}, api.OK},
		{"the least density", func(t *api.Incline) { t.Density = 900 }, api.OK},
		{"too small a density", func(t *api.Incline) { t.Density = 899 }, api.ErrRange},
		{"the greatest density", func(t *api.Incline) { t.Density = 1100 }, api.OK},
		{"too great a density", func(t *api.Incline) { t.Density = 1101 }, api.ErrRange},
		{"no density and no water", func(t *api.Incline) { t.Density, t.Attitude = 0, at("0", "0") }, api.ErrRange},
		{"no water", func(t *api.Incline) { t.Attitude = at("0", "0") }, api.ErrNone},
		{"no water and no pendulum", func(t *api.Incline) { t.Attitude, t.Pendulum = at("0", "0"), 0 }, api.ErrNone},
		{"no pendulum", func(t *api.Incline) { t.Pendulum = 0 }, api.ErrRange},
		{"the least pendulum", func(t *api.Incline) { t.Pendulum = 1 }, api.OK},
		{"the greatest pendulum", func(t *api.Incline) { t.Pendulum = 100000 }, api.OK},
		{"too great a pendulum", func(t *api.Incline) { t.Pendulum = 100001 }, api.ErrRange},
		{"no pendulum and 41 shifts", func(t *api.Incline) { t.Pendulum, t.Shifts = 0, make([]api.Shift, 41) }, api.ErrRange},
		{"41 shifts", func(t *api.Incline) { t.Shifts = append(make([]api.Shift, 40), good) }, api.ErrLarge},
		{"41 shifts with a bad one", func(t *api.Incline) { t.Shifts = append(make([]api.Shift, 40), api.Shift{Mass: -1}) }, api.ErrLarge},
		{"40 shifts", func(t *api.Incline) { t.Shifts = append(make([]api.Shift, 39), good) }, api.OK},
		{"no shifts", func(t *api.Incline) { t.Shifts = nil }, api.ErrZero},
		{"shifts without a deflection", func(t *api.Incline) { t.Shifts = []api.Shift{{Mass: 1, Distance: 1}, {Mass: 2, Distance: 2}} }, api.ErrZero},
		{"a bad shift without a deflection", func(t *api.Incline) { t.Shifts = []api.Shift{{Mass: -1}} }, api.ErrRange},
		{"a bad shift at the end", func(t *api.Incline) { t.Shifts = []api.Shift{good, good, {Mass: -1}} }, api.ErrRange},
		{"opposite deflections", func(t *api.Incline) { t.Shifts = []api.Shift{{Deflection: 3}, {Deflection: -3}} }, api.OK},
	} {
		wantExperimentError(t, x.what, x.change, x.wanted)
	}
}

func wantExperimentError(t *testing.T, what string, change func(t *api.Incline), wanted api.Errno) {
	t.Helper()
	i := incline(barge(), 3000, api.Shift{Mass: 8000, Distance: 5000, Deflection: 225})
	change(&i)
	r, e := hull.Experiment(i)
	if wanted != api.OK {
		wantError(t, "Experiment with "+what, wanted, e, r)
	}
	want(t, "the error of Experiment with "+what, e, wanted)
}

func TestShiftsOutOfRange(t *testing.T) {
	for _, x := range []struct {
		s      api.Shift
		wanted api.Errno
	}{
		{api.Shift{Mass: 0, Distance: 1, Deflection: 1}, api.OK},
		{api.Shift{Mass: 100000000, Distance: 1, Deflection: 1}, api.OK},
		{api.Shift{Mass: -1, Distance: 1, Deflection: 1}, api.ErrRange},
		{api.Shift{Mass: 100000001, Distance: 1, Deflection: 1}, api.ErrRange},
		{api.Shift{Distance: -100000, Deflection: 1}, api.OK},
		{api.Shift{Distance: 100000, Deflection: 1}, api.OK},
		{api.Shift{Distance: -100001, Deflection: 1}, api.ErrRange},
		{api.Shift{Distance: 100001, Deflection: 1}, api.ErrRange},
		{api.Shift{Deflection: -100000}, api.OK},
		{api.Shift{Deflection: 100000}, api.OK},
		{api.Shift{Deflection: -100001}, api.ErrRange},
		{api.Shift{Deflection: 100001}, api.ErrRange},
		{api.Shift{Deflection: 1 << 32}, api.ErrRange},
		{api.Shift{Mass: math.MinInt}, api.ErrRange},
	} {
		wantExperimentError(t, fmt.Sprint(x.s), func(t *api.Incline) { t.Shifts = []api.Shift{x.s} }, x.wanted)
	}
}

// P2.7

func TestSurvey(t *testing.T) {
	for _, x := range []struct {
		what                    string
		places, port, star      [3]int
		sink, slope, deflection string
	}{
		{"the example", [3]int{0, 10000, 20000}, [3]int{1900, 2040, 2100}, [3]int{1900, 2040, 2100}, "1930", "1/100", "40"},
		{"both sides", [3]int{0, 10000, 20000}, [3]int{1800, 2000, 2150}, [3]int{2000, 2080, 2050}, "1930", "1/100", "40"},
		{"half millimetres", [3]int{0, 1, 2}, [3]int{1, 0, 0}, [3]int{0, 0, 0}, "5/16", "-1/4", "-1/4"},
		{"places that are not even", [3]int{-1000, 200, 2000}, [3]int{3000, 3600, 4500}, [3]int{3000, 3600, 4500}, "3500", "1/2", "0"},
		{"a keel that bends up", [3]int{-7, 0, 14}, [3]int{10, 0, -11}, [3]int{10, 0, -11}, "3/4", "-1", "-3"},
		{"below 0", [3]int{-3, -2, -1}, [3]int{-5, -6, -7}, [3]int{-5, -6, -7}, "-8", "-1", "0"},
		{"the ends", [3]int{-1000000, 0, 1000000}, [3]int{-1000000, 1000000, 1000000}, [3]int{-1000000, 1000000, 1000000}, "750000", "1", "1000000"},
	} {
		a, d, e := hull.Survey(api.Marks{X: x.places, Port: x.port, Starboard: x.star})
		want(t, x.what, []any{a, d, e}, []any{at(x.sink, x.slope), num(x.deflection), api.OK})
		a, d, e = hull.Survey(api.Marks{X: x.places, Port: x.star, Starboard: x.port})
		want(t, x.what+", sides exchanged", []any{a, d, e}, []any{at(x.sink, x.slope), num(x.deflection), api.OK})
	}
}

func TestErrorsOfSurvey(t *testing.T) {
	check := func(what string, m api.Marks, wanted api.Errno) {
		t.Helper()
		a, d, e := hull.Survey(m)
		if wanted != api.OK {
			wantError(t, "Survey of "+what, wanted, e, a, d)
		}
		want(t, "the error of Survey of "+what, e, wanted)
	}
	for i := range 3 {
		for _, n := range []int{-1000001, 1000001, math.MinInt, math.MaxInt} {
			m := api.Marks{X: [3]int{0, 1, 2}}
			m.X[i] = n
			check("a place far away", m, api.ErrRange)
			m = api.Marks{X: [3]int{0, 1, 2}}
			m.Port[i] = n
			check("a reading to port", m, api.ErrRange)
			m = api.Marks{X: [3]int{5, 5, 5}}
			m.Starboard[i] = n
			check("a reading to starboard before the order", m, api.ErrRange)
		}
		for _, n := range []int{-1000000, 1000000} {
			m := api.Marks{X: [3]int{-1000000, 1, 1000000}}
			m.Port[i], m.Starboard[i] = n, -n
			check("the greatest readings", m, api.OK)
		}
	}
	for _, x := range [][3]int{{0, 0, 1}, {0, 1, 1}, {0, 0, 0}, {1, 0, 2}, {0, 2, 1}, {2, 1, 0}} {
		check("places out of order", api.Marks{X: x}, api.ErrOrder)
	}
}

func TestDraughts(t *testing.T) {
	for _, x := range []struct {
		a      api.Attitude
		wanted [3]string
	}{
		{at("1930", "1/100"), [3]string{"1930", "406001/200", "213001/100"}},
		{at("-1/2", "-2"), [3]string{"-1/2", "-40003/2", "-80005/2"}},
		{at("7/3", "0"), [3]string{"7/3", "7/3", "7/3"}},
	} {
		for _, a := range []api.Attitude{x.a, oddAt(x.a)} {
			d, e := hull.Draughts(tug(), a)
			want(t, "Draughts", []any{d, e}, []any{[3]api.Rat{num(x.wanted[0]), num(x.wanted[1]), num(x.wanted[2])}, api.OK})
		}
	}
	d, e := hull.Draughts(barge(), api.Attitude{})
	want(t, "Draughts of nothing", []any{d, e}, []any{[3]api.Rat{num("0"), num("0"), num("0")}, api.OK})
}
