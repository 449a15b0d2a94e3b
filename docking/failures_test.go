package docking_test

import (
	"fmt"
	"math/rand"
	"testing"

	"keelblock/api"
	"keelblock/docking"
	"keelblock/hull"
)

// P4.4

var (
	overhangAft  = api.Failure{Kind: api.ROverhang}
	overhangFore = api.Failure{Kind: api.ROverhang, Index: 1}
	noBalance    = api.Failure{Kind: api.RTip}
	aground      = api.Failure{Kind: api.RTip, Index: 1}
	unstable     = api.Failure{Kind: api.RGM}
)

func overload(i int) api.Failure { return api.Failure{Kind: api.RBlock, Index: i} }

func TestOverhang(t *testing.T) {
	for _, x := range []struct {
		what      string
		d         api.Docking
		aft, fore int
	}{
		{"the raft", raft(), 4500, 4500},
		{"one block", over(keel(5000)), 4500, 14500},
		{"other blocks between", over(keel(12000), keel(3000), keel(18000), keel(9000)), 2500, 1500},
		{"side blocks do not count", over(side(1000, 500), keel(8000), side(19000, 500)), 7500, 11500},
		{"up to the ends", over(keel(500), keel(19500)), 0, 0},
		{"beyond the ends", over(keel(499), keel(19501)), 0, 0},
		// the tug is from -0.5 to 10500
		{"odd widths", tug(), 300, 1100},
	} {
		aft, fore, e := docking.Overhang(x.d)
		want(t, x.what+": error", e, api.OK)
		want(t, x.what+": aft", aft, x.aft)
		want(t, x.what+": forward", fore, x.fore)
	}
	long := over(api.Block{X: 5000, Half: 900, Height: 5, Width: 5, Stiff: num("1")}, api.Block{X: 5000, Z: 900, Half: 1200, Height: 5, Width: 5, Stiff: num("1"), Side: true}, keel(6400))
	aft, fore, _ := docking.Overhang(long)
	want(t, "the longest block aft", aft, 4100)
	want(t, "the block forward", fore, 13100)
}

func TestOverhangOfOddWidths(t *testing.T) {
	for width, ends := range map[int][2]int{1: {-1, 1}, 2: {-1, 1}, 3: {-2, 2}, 4: {-2, 2}, 2001: {-1001, 1001}} {
		for _, x := range []int{-3000, 0, 3000} {
			d := over(api.Block{X: x, Half: 1, Height: 5, Width: 5, Stiff: num("1")})
			d.Ship.Stations = []api.Station{{X: x, Width: width, Levels: []int{0, 9}, Halves: []int{5}}}
			aft, fore, e := docking.Overhang(d)
			want(t, "the error", e, api.OK)
			want(t, fmt.Sprint("aft of the width ", width), aft, max(0, -1-ends[0]))
			want(t, fmt.Sprint("forward of the width ", width), fore, max(0, ends[1]-1))
		}
	}
}

func TestOverhangErrors(t *testing.T) {
	for _, d := range []api.Docking{over(), over(side(5000, 500))} {
		aft, fore, e := docking.Overhang(d)
		wantError(t, "no keel block", api.ErrNone, e, aft, fore)
	}
}

// A finding is the failures at a level.
type finding struct {
	what   string
	change func(d *api.Docking)
	level  string
	wanted []api.Failure
}

func findings() []finding {
	nothing := func(d *api.Docking) {}
	overhang := func(n int) func(d *api.Docking) { return func(d *api.Docking) { d.Overhang = n } }
	blocks := func(l ...api.Block) func(d *api.Docking) { return func(d *api.Docking) { d.Blocks = l } }
	return []finding{
		{"nothing", nothing, "4000", nil},
		{"nothing", nothing, "0", nil},
		{"the overhang just allowed", overhang(4500), "0", nil},
		{"both overhangs", overhang(4499), "0", []api.Failure{overhangAft, overhangFore}},
		{"the overhang afloat", overhang(0), "9000", []api.Failure{overhangAft, overhangFore}},
		{"the overhang aft", blocks(keel(6001), keel(15000), keel(6500+501)), "9000", []api.Failure{overhangAft}},
		{"the overhang forward", blocks(keel(5000), keel(13999), keel(9000)), "9000", []api.Failure{overhangFore}},
		{"no keel block", blocks(side(5000, 500), side(15000, 500)), "9000", []api.Failure{overhangAft, overhangFore}},
		{"no keel block and any overhang", func(d *api.Docking) { d.Blocks, d.Overhang = nil, 1000000 }, "9000", []api.Failure{overhangAft, overhangFore}},
		// example 5
		{"one block", blocks(keel(5000)), "0", []api.Failure{overhangFore, aground, unstable}},
		{"a weight behind the blocks", func(d *api.Docking) { d.Ship.Light.X = 4999 }, "0", []api.Failure{noBalance}},
		{"a weight and the overhang", func(d *api.Docking) { d.Ship.Light.X, d.Overhang, d.GM = 4999, 4000, 100000 }, "0", []api.Failure{overhangAft, overhangFore, noBalance}},
		{"too heavy", func(d *api.Docking) { d.Ship.Light.Mass, d.Blocks = 480001, nil }, "9000", []api.Failure{overhangAft, overhangFore, noBalance}},
		{"the GM just reached", func(d *api.Docking) { narrow(d); d.GM = 500 }, "9000", nil},
		{"just too low a GM", func(d *api.Docking) { narrow(d); d.GM = 501 }, "9000", []api.Failure{unstable}},
		{"a free surface", func(d *api.Docking) { narrow(d); d.GM, d.Ship.Light.Free = 500, 1 }, "9000", []api.Failure{unstable}},
		{"no GM when dry", func(d *api.Docking) { d.GM = 100000 }, "1340", nil},
		{"too low a GM", func(d *api.Docking) { d.GM = 100000 }, "1341", []api.Failure{unstable}},
		{"a negative GM", func(d *api.Docking) { d.GM, d.Ship.Light.Z = -1333, 5000 }, "9000", []api.Failure{unstable}},
		{"a negative GM", func(d *api.Docking) { d.GM, d.Ship.Light.Z = -1334, 5000 }, "9000", nil},
		{"the least GM", func(d *api.Docking) { d.GM, d.Ship.Light.Z = -100000, 100000 }, "9000", nil},
		{"a pair that does not yet hold", func(d *api.Docking) { d.GM, d.Blocks = 100000, append(d.Blocks, side(10000, 500)) }, "3500", []api.Failure{unstable}},
		{"a pair that holds", func(d *api.Docking) { d.GM, d.Blocks = 100000, append(d.Blocks, side(10000, 500)) }, "3499", nil},
		{"blocks just at their limits", func(d *api.Docking) { d.Blocks[0].Limit, d.Blocks[1].Limit = 160000, 160000 }, "0", nil},
		{"one block above its limit", func(d *api.Docking) { d.Blocks[0].Limit, d.Blocks[1].Limit = 160000, 159999 }, "0", []api.Failure{overload(1)}},
		{"both blocks above their limits", func(d *api.Docking) { d.Blocks[0].Limit, d.Blocks[1].Limit = 0, 159999 }, "0", []api.Failure{overload(0), overload(1)}},
		{"blocks without load", func(d *api.Docking) { d.Blocks[0].Limit, d.Blocks[1].Limit = 0, 0 }, "3500", nil},
		{"a pair just at its limit", blocks(keel(5000), keel(15000), limited(side(10000, 500), 80000)), "0", nil},
		{"a pair above its limit", blocks(keel(5000), keel(15000), limited(side(10000, 500), 79999)), "0", []api.Failure{overload(2)}},
		{"a floor just touched", func(d *api.Docking) { lower(d, 160) }, "0", nil},
		{"a floor", func(d *api.Docking) { lower(d, 159) }, "0", []api.Failure{aground}},
		{"a floor under one strip", func(d *api.Docking) { d.Ship.Stations[0].Levels[0] = 0; lower(d, 159) }, "0", []api.Failure{aground}},
		{"a floor under water", blocks(), "1999", []api.Failure{overhangAft, overhangFore, aground}},
		{"a floor under water", blocks(), "2000", []api.Failure{overhangAft, overhangFore}},
		{"a raised bottom", func(d *api.Docking) {
			lower(d, 0)
			d.Ship.Stations[0].Levels[0], d.Ship.Stations[1].Levels[0] = 159, 160
		}, "0", []api.Failure{aground}},
		{"a raised bottom", func(d *api.Docking) {
			lower(d, 0)
			d.Ship.Stations[0].Levels[0], d.Ship.Stations[1].Levels[0] = 160, 159
		}, "0", []api.Failure{aground}},
		{"all of it", func(d *api.Docking) {
			lower(d, 100)
			d.Overhang, d.GM, d.Blocks[0].Limit, d.Blocks[1].Limit = 0, 100000, 5, 6
		}, "100", []api.Failure{overhangAft, overhangFore, aground, unstable, overload(0), overload(1)}},
		{"the lowest level", nothing, "-10000000", nil},
		{"the highest level", nothing, "10000000", nil},
	}
}

// narrow makes a raft that floats at 2000 with a GM of 500.
func narrow(d *api.Docking) {
	d.Ship.Light.Mass = 240000
	for i := range d.Ship.Stations {
		d.Ship.Stations[i].Halves[0] = 3000
	}
}

func limited(b api.Block, limit int) api.Block {
	b.Limit = limit
	return b
}

// lower sets the height of all blocks: a strip then rests on a block whose top is pressed by 160.
func lower(d *api.Docking, height int) {
	for i := range d.Blocks {
		d.Blocks[i].Height = height + d.Ship.Stations[i].Levels[0]
	}
}

func TestFailures(t *testing.T) {
	for i, x := range findings() {
		d := raft()
		x.change(&d)
		what := fmt.Sprint(i, " ", x.what)
		l, e := docking.Failures(d, num(x.level))
		want(t, what+": error", e, api.OK)
		want(t, what, l, x.wanted)
		l, e = docking.Failures(oddDocking(d), odd(num(x.level)))
		want(t, what+": error", e, api.OK)
		want(t, what, l, x.wanted)
	}
}

func TestErrorsOfFailures(t *testing.T) {
	for _, x := range notStanding() {
		for _, overhang := range []int{0, 1000000} {
			x.d.Overhang = overhang
			l, e := docking.Failures(x.d, num(x.level))
			if x.e == api.ErrSink || x.e == api.ErrTip {
				want(t, x.what+": error", e, api.OK)
				want(t, x.what, l[len(l)-1], noBalance)
			} else {
				wantError(t, x.what, x.e, e, l)
			}
		}
	}
}

func TestFailuresBySecondOpinion(t *testing.T) {
	r := rand.New(rand.NewSource(25))
	count := map[api.Failure]int{}
	none := 0
	for range 2000 {
		d := randomDocking(r)
		level := randomLevel(r, d)
		wanted, e := secondFailures(d, level)
		got, e2 := docking.Failures(d, level)
		want(t, "the error", e2, e)
		want(t, "the failures", got, wanted)
		for _, f := range got {
			count[f]++
		}
		if e == api.OK && len(got) == 0 {
			none++
		}
	}
	for _, f := range []api.Failure{overhangAft, overhangFore, noBalance, aground, unstable, overload(0), overload(3)} {
		if count[f] < 10 {
			t.Errorf("only %v", count)
		}
	}
	if none < 50 {
		t.Errorf("only %d dockings without failures", none)
	}
}

// secondFailures judges the standing in the words of the chapter.
func secondFailures(d api.Docking, level api.Rat) ([]api.Failure, api.Errno) {
	var l []api.Failure
	aft, fore, e := docking.Overhang(d)
	if e != api.OK || aft > d.Overhang {
		l = append(l, overhangAft)
	}
	if e != api.OK || fore > d.Overhang {
		l = append(l, overhangFore)
	}
	s, e := docking.At(d, level)
	if e == api.ErrSink || e == api.ErrTip {
		return append(l, noBalance), api.OK
	}
	if e != api.OK {
		return nil, e
	}
	floor := false
	for _, t := range d.Ship.Stations {
		// how far the bottom of the strip is above the floor
		above := minus(bigInt(t.Levels[0]), plus(bigOf(s.Attitude.Sink), mul(bigOf(s.Attitude.Slope), bigInt(t.X))))
		floor = floor || above.Sign() < 0
	}
	if floor {
		l = append(l, aground)
	}
	if bigOf(s.Buoyancy).Sign() != 0 && !s.Held && bigOf(s.Stable.GM).Cmp(bigInt(d.GM)) < 0 {
		l = append(l, unstable)
	}
	for i, b := range d.Blocks {
		most := bigInt(b.Limit)
		if b.Side {
			most = plus(most, most)
		}
		if bigOf(s.Loads[i]).Cmp(most) > 0 {
			l = append(l, overload(i))
		}
	}
	return l, api.OK
}

func TestJudge(t *testing.T) {
	weak := raft()
	weak.Blocks[0].Limit = 159999
	for _, x := range []struct {
		what   string
		d      api.Docking
		course []int
		wanted api.Verdict
	}{
		{"nothing", raft(), nil, api.Verdict{OK: true}},
		{"nothing with failures", over(), nil, api.Verdict{OK: true}},
		{"the raft", raft(), course(5000, 4000, 3500, 3000, 2000, 0), api.Verdict{OK: true}},
		{"the last level", weak, course(5000, 3000, 0), api.Verdict{At: 2, Failures: []api.Failure{overload(0)}}},
		{"the first of two levels", weak, course(5000, 0, 3000, 0), api.Verdict{At: 1, Failures: []api.Failure{overload(0)}}},
		{"the first level", weak, course(0, 5000), api.Verdict{Failures: []api.Failure{overload(0)}}},
		{"the lowest and the highest level", raft(), course(-100000, 100000), api.Verdict{OK: true}},
		{"two failures", over(keel(5000)), course(5000), api.Verdict{Failures: []api.Failure{overhangFore}}},
		{"a failure before an error of a level", weak, course(0, 100001), api.Verdict{Failures: []api.Failure{overload(0)}}},
		{"tipping before an error of a level", tipping(), course(0, 100001), api.Verdict{Failures: []api.Failure{noBalance}}},
	} {
		v, e := docking.Judge(x.d, x.course)
		want(t, x.what+": error", e, api.OK)
		want(t, x.what, v, x.wanted)
		v, e = docking.Judge(oddDocking(x.d), x.course)
		want(t, x.what+": error", e, api.OK)
		want(t, x.what, v, x.wanted)
	}
	full := make([]int, 200)
	v, e := docking.Judge(raft(), full)
	want(t, "the longest course: error", e, api.OK)
	want(t, "the longest course", v, api.Verdict{OK: true})
}

func TestJudgeErrors(t *testing.T) {
	for _, x := range voyages() {
		v, e := docking.Judge(x.d, x.course)
		wantError(t, x.what, x.e, e, v)
	}
	heaviest := raft()
	heaviest.Ship.Items = []api.Load{{Name: "More", Mass: 1000000000}}
	v, e := docking.Judge(heaviest, course(0))
	wantError(t, "too heavy for a body", api.ErrRange, e, v)
}

func TestJudgeBySecondOpinion(t *testing.T) {
	r := rand.New(rand.NewSource(26))
	count := map[string]int{}
	for range 600 {
		d, levels := randomDocking(r), randomCourse(r)
		wanted, e := secondVerdict(d, levels)
		v, e2 := docking.Judge(d, levels)
		want(t, "the error", e2, e)
		want(t, "the verdict", v, wanted)
		count[fmt.Sprint(e, " ", v.OK, " ", v.At > 0)]++
	}
	for _, what := range []string{"0 true false", "0 false false", "0 false true", "14 false false"} {
		if count[what] < 5 {
			t.Errorf("only %v", count)
		}
	}
}

func randomCourse(r *rand.Rand) []int {
	var l []int
	for w := 2500; w > 0 && len(l) < 6; w -= r.Intn(900) {
		l = append(l, w)
	}
	return l
}

// secondVerdict asks for the failures level by level.
func secondVerdict(d api.Docking, levels []int) (api.Verdict, api.Errno) {
	for i, w := range levels {
		l, e := docking.Failures(d, whole(w))
		if e != api.OK {
			return api.Verdict{}, e
		}
		if len(l) > 0 {
			return api.Verdict{At: i, Failures: l}, api.OK
		}
	}
	return api.Verdict{OK: true}, api.OK
}

// Example 6: the GM of the raft afloat.
func TestGMOfTheRaft(t *testing.T) {
	d := raft()
	d.GM = 1700
	v, e := docking.Judge(d, course(4000))
	want(t, "the error", e, api.OK)
	want(t, "the verdict", v, api.Verdict{Failures: []api.Failure{unstable}})
	d.Ship, _ = hull.With(d.Ship, api.Load{Name: "Low", Mass: 32000, X: 10000})
	v, e = docking.Judge(d, course(4000))
	want(t, "the error", e, api.OK)
	want(t, "the verdict", v, api.Verdict{OK: true})
	s, _ := docking.At(d, num("4000"))
	want(t, "the GM", s.Stable.GM, num("56300/33"))
}
