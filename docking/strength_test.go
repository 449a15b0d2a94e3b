package docking_test

import (
	"math/big"
	"math/rand"
	"slices"
	"testing"

	"keelblock/api"
	"keelblock/docking"
	"keelblock/hull"
)

// P4.6

func TestStrengthOfTheRaft(t *testing.T) {
	for _, x := range []struct {
		what   string
		d      api.Docking
		level  string
		wanted []api.Force
	}{
		// the blocks are where the strips are
		{"afloat", raft(), "4000", []api.Force{
			{X: 5000, Shear: num("160000"), Moment: num("0")},
			{X: 10000, Shear: num("-160000"), Moment: num("800000000")},
			{X: 15000, Shear: num("0"), Moment: num("0")},
		}},
		{"dry", raft(), "0", []api.Force{
			{X: 5000, Shear: num("160000"), Moment: num("0")},
			{X: 10000, Shear: num("-160000"), Moment: num("800000000")},
			{X: 15000, Shear: num("0"), Moment: num("0")},
		}},
		{"blocks at further places", over(keel(18000), keel(2000)), "0", []api.Force{
			{X: 2000, Shear: num("160000"), Moment: num("0")},
			{X: 5000, Shear: num("160000"), Moment: num("480000000")},
			{X: 10000, Shear: num("-160000"), Moment: num("1280000000")},
			{X: 15000, Shear: num("-160000"), Moment: num("480000000")},
			{X: 18000, Shear: num("0"), Moment: num("0")},
		}},
		{"blocks without load", over(keel(18000), keel(2000)), "9000", []api.Force{
			{X: 2000, Shear: num("0"), Moment: num("0")},
			{X: 5000, Shear: num("160000"), Moment: num("0")},
			{X: 10000, Shear: num("-160000"), Moment: num("800000000")},
			{X: 15000, Shear: num("0"), Moment: num("0")},
			{X: 18000, Shear: num("0"), Moment: num("0")},
		}},
		{"several at one place", over(keel(10000), side(10000, 1000)), "3000", []api.Force{
			{X: 5000, Shear: num("9640000/79"), Moment: num("0")},
			{X: 10000, Shear: num("-9640000/79"), Moment: num("48200000000/79")},
			{X: 15000, Shear: num("0"), Moment: num("0")},
		}},
		{"no blocks", over(), "0", []api.Force{
			{X: 5000, Shear: num("160000"), Moment: num("0")},
			{X: 10000, Shear: num("-160000"), Moment: num("800000000")},
			{X: 15000, Shear: num("0"), Moment: num("0")},
		}},
	} {
		l, e := docking.Strength(x.d, num(x.level))
		want(t, x.what+": error", e, api.OK)
		want(t, x.what, l, x.wanted)
		l, e = docking.Strength(oddDocking(x.d), odd(num(x.level)))
		want(t, x.what+": error", e, api.OK)
		want(t, x.what, l, x.wanted)
	}
}

func TestStrengthBySecondOpinion(t *testing.T) {
	r := rand.New(rand.NewSource(30))
	count := 0
	for range 600 {
		d := randomDocking(r)
		level := randomLevel(r, d)
		s, e := docking.At(d, level)
		l, e2 := docking.Strength(d, level)
		want(t, "the error", e2, e)
		if e != api.OK {
			want(t, "no forces", l, []api.Force(nil))
			continue
		}
		want(t, "the forces", l, secondStrength(d, level, s))
		// P4.7: the forces and the moments agree
		want(t, "the last shear force", l[len(l)-1].Shear, num("0"))
		want(t, "the last moment", l[len(l)-1].Moment, num("0"))
		count++
	}
	if count < 200 {
		t.Errorf("only %d standings", count)
	}
}

// secondStrength adds up all forces anew for each place.
func secondStrength(d api.Docking, level api.Rat, s api.Docked) []api.Force {
	all := slices.Concat(secondLoads(d, s.Attitude), secondBuoyancy(d, toWater(s.Attitude, level)), weights(d))
	var places []int
	for _, f := range all {
		places = append(places, f.x)
	}
	slices.Sort(places)
	var out []api.Force
	for _, x := range slices.Compact(places) {
		shear, moment := new(big.Rat), new(big.Rat)
		for _, f := range all {
			if f.x <= x {
				shear = plus(shear, f.lift)
				moment = plus(moment, mul(f.lift, bigInt(x-f.x)))
			}
		}
		out = append(out, api.Force{X: x, Shear: ofBig(shear), Moment: ofBig(moment)})
	}
	return out
}

// A ship that is afloat has the strength of chapter 2.
func TestStrengthAfloat(t *testing.T) {
	d := tug()
	d.Blocks = nil
	s, e := docking.At(d, num("9000"))
	want(t, "the error", e, api.OK)
	wanted, _ := hull.Strength(d.Ship, toWater(s.Attitude, s.Level), d.Density)
	l, e := docking.Strength(d, num("9000"))
	want(t, "the error", e, api.OK)
	want(t, "the forces", l, wanted)
}
