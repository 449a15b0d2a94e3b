package docking_test

import (
	"math"
	"math/rand"
	"slices"
	"strconv"
	"testing"

	"keelblock/api"
	"keelblock/docking"
	"keelblock/hull"
)

// P4.1

// A change makes a docking right or wrong.
type change struct {
	what string
	do   func(d *api.Docking)
	e    api.Errno
}

// apply does a change to a tug with lists of its own.
func apply(c change) api.Docking {
	d := tug()
	c.do(&d)
	return d
}

func block(i int, do func(b *api.Block)) func(d *api.Docking) {
	return func(d *api.Docking) { do(&d.Blocks[i]) }
}

func zone(i int, do func(z *api.Zone)) func(d *api.Docking) {
	return func(d *api.Docking) { do(&d.Zones[i]) }
}

// changes are the bounds of all numbers, and what is just beyond them.
func changes() []change {
	return slices.Concat(plainChanges(), zoneChanges(), blockChanges(), sideChanges())
}

func plainChanges() []change {
	return []change{
		{"nothing", func(d *api.Docking) {}, api.OK},
		{"no blocks and zones", func(d *api.Docking) { d.Blocks, d.Zones = nil, nil }, api.OK},
		{"the name of the ship", func(d *api.Docking) { d.Ship.Name = "" }, api.ErrName},
		{"the stations", func(d *api.Docking) { d.Ship.Stations = nil }, api.ErrRange},
		{"an item", func(d *api.Docking) { d.Ship.Items[1].Name = "Light" }, api.ErrExists},
		{"density", func(d *api.Docking) { d.Density = 899 }, api.ErrRange},
		{"density", func(d *api.Docking) { d.Density = 900 }, api.OK},
		{"density", func(d *api.Docking) { d.Density = 1100 }, api.OK},
		{"density", func(d *api.Docking) { d.Density = 1101 }, api.ErrRange},
		{"GM", func(d *api.Docking) { d.GM = -100001 }, api.ErrRange},
		{"GM", func(d *api.Docking) { d.GM = -100000 }, api.OK},
		{"GM", func(d *api.Docking) { d.GM = 100000 }, api.OK},
		{"GM", func(d *api.Docking) { d.GM = 100001 }, api.ErrRange},
		{"overhang", func(d *api.Docking) { d.Overhang = -1 }, api.ErrRange},
		{"overhang", func(d *api.Docking) { d.Overhang = 0 }, api.OK},
		{"overhang", func(d *api.Docking) { d.Overhang = 1000000 }, api.OK},
		{"overhang", func(d *api.Docking) { d.Overhang = 1000001 }, api.ErrRange},
	}
}

func zoneChanges() []change {
	return []change{
		{"20 zones", func(d *api.Docking) { d.Zones = zones(20) }, api.OK},
		{"21 zones", func(d *api.Docking) { d.Zones = zones(21) }, api.ErrLarge},
		{"name of a zone", zone(0, func(z *api.Zone) { z.Name = "2" }), api.ErrName},
		{"name of a zone", zone(1, func(z *api.Zone) { z.Name = "Log" }), api.ErrExists},
		{"names are not folded", zone(1, func(z *api.Zone) { z.Name = "log" }), api.OK},
		{"From", zone(0, func(z *api.Zone) { z.From = -1000001 }), api.ErrRange},
		{"To", zone(1, func(z *api.Zone) { z.To = 1000001 }), api.ErrRange},
		{"From and To", zone(1, func(z *api.Zone) { z.From, z.To = 1000000, 1000000 }), api.OK},
		{"From and To", zone(1, func(z *api.Zone) { z.From, z.To = -1000000, -1000000 }), api.OK},
		{"From behind To", zone(1, func(z *api.Zone) { z.From, z.To = 1000000, 999999 }), api.ErrRange},
		{"From and To", zone(1, func(z *api.Zone) { z.From, z.To = 1000001, 1000001 }), api.ErrRange},
		{"From and To", zone(1, func(z *api.Zone) { z.From, z.To = -1000001, -1000001 }), api.ErrRange},
		{"half of a zone", zone(1, func(z *api.Zone) { z.Half = -1 }), api.ErrRange},
		{"half of a zone", zone(1, func(z *api.Zone) { z.Half = 0 }), api.OK},
		{"half of a zone", zone(1, func(z *api.Zone) { z.Half = 100000 }), api.OK},
		{"half of a zone", zone(1, func(z *api.Zone) { z.Half = 100001 }), api.ErrRange},
	}
}

func zones(n int) []api.Zone {
	var l []api.Zone
	for i := range n {
		l = append(l, api.Zone{Name: "z" + strconv.Itoa(i), From: -5, To: -5})
	}
	return l
}

// blockChanges change the first block, which is a keel block and not at an edge of its strip.
func blockChanges() []change {
	return []change{
		{"40 blocks", func(d *api.Docking) { d.Blocks = row(40) }, api.OK},
		{"41 blocks", func(d *api.Docking) { d.Blocks = row(41) }, api.ErrLarge},
		{"X", block(0, func(b *api.Block) { b.X = -1000000 }), api.ErrMissing},
		{"X", block(0, func(b *api.Block) { b.X = -1000001 }), api.ErrRange},
		{"X", block(0, func(b *api.Block) { b.X = 1000000 }), api.ErrMissing},
		{"X", block(0, func(b *api.Block) { b.X = 1000001 }), api.ErrRange},
		{"half", block(0, func(b *api.Block) { b.Half = 0 }), api.ErrRange},
		{"half", block(0, func(b *api.Block) { b.Half = 1 }), api.OK},
		{"half", block(0, func(b *api.Block) { b.Half = 10000 }), api.ErrZone},
		{"half", block(0, func(b *api.Block) { b.Half = 10001 }), api.ErrRange},
		{"height", block(0, func(b *api.Block) { b.Height = -1 }), api.ErrRange},
		{"height", block(0, func(b *api.Block) { b.Height = 0 }), api.OK},
		{"height", block(0, func(b *api.Block) { b.Height = 100000 }), api.OK},
		{"height", block(0, func(b *api.Block) { b.Height = 100001 }), api.ErrRange},
		{"width", block(0, func(b *api.Block) { b.Width = 0 }), api.ErrRange},
		{"width", block(0, func(b *api.Block) { b.Width = 1 }), api.OK},
		{"width", block(0, func(b *api.Block) { b.Width = 20000 }), api.OK},
		{"width", block(0, func(b *api.Block) { b.Width = 20001 }), api.ErrRange},
		{"limit", block(0, func(b *api.Block) { b.Limit = -1 }), api.ErrRange},
		{"limit", block(0, func(b *api.Block) { b.Limit = 0 }), api.OK},
		{"limit", block(0, func(b *api.Block) { b.Limit = 1000000000 }), api.OK},
		{"limit", block(0, func(b *api.Block) { b.Limit = 1000000001 }), api.ErrRange},
		{"stiffness", block(0, func(b *api.Block) { b.Stiff = api.Rat{} }), api.ErrRange},
		{"stiffness", block(0, func(b *api.Block) { b.Stiff = odd(num("0")) }), api.ErrRange},
		{"stiffness", block(0, func(b *api.Block) { b.Stiff = num("-1/1000") }), api.ErrRange},
		{"stiffness", block(0, func(b *api.Block) { b.Stiff = odd(num("-7")) }), api.ErrRange},
		{"stiffness", block(0, func(b *api.Block) { b.Stiff = num("1/1000000000000000000000000") }), api.OK},
		{"stiffness", block(0, func(b *api.Block) { b.Stiff = odd(num("1000000000000000000000000/7")) }), api.OK},
		{"Z of a keel block", block(0, func(b *api.Block) { b.Z = 1 }), api.ErrRange},
		{"Z of a keel block", block(0, func(b *api.Block) { b.Z = -1 }), api.ErrRange},
	}
}

// row is blocks side by side under the last strip of the tug, before its zones.
func row(n int) []api.Block {
	var l []api.Block
	for i := range n {
		l = append(l, api.Block{X: 5501 + 2*i, Half: 1, Width: 1, Stiff: num("1")})
	}
	return l
}

// sideChanges change the last block, which is a side block.
func sideChanges() []change {
	return []change{
		{"Z of a side block", block(3, func(b *api.Block) { b.Z = -1500 }), api.ErrRange},
		{"Z of a side block", block(3, func(b *api.Block) { b.Z, b.Width = 0, 1 }), api.ErrRange},
		{"Z of a side block", block(3, func(b *api.Block) { b.Z, b.Width = 1, 1 }), api.ErrClash},
		{"Z of a side block", block(3, func(b *api.Block) { b.Z, b.Width, b.X = 1, 1, 10000 }), api.OK},
		{"Z of a side block", block(3, func(b *api.Block) { b.Z, b.Width, b.X = 1, 2, 10000 }), api.OK},
		{"Z of a side block", block(3, func(b *api.Block) { b.Z, b.Width, b.X = 1, 3, 10000 }), api.ErrRange},
		{"Z of a side block", block(3, func(b *api.Block) { b.Z, b.Width, b.X = 250, 500, 10000 }), api.OK},
		{"Z of a side block", block(3, func(b *api.Block) { b.Z, b.X = 250, 10000 }), api.ErrRange},
		{"Z of a side block", block(3, func(b *api.Block) { b.Z, b.X = 251, 10000 }), api.OK},
		{"Z of a side block", block(3, func(b *api.Block) { b.Z = 100000 }), api.ErrMissing},
		{"Z of a side block", block(3, func(b *api.Block) { b.Z = 100001 }), api.ErrRange},
		{"a keel block at Z", block(3, func(b *api.Block) { b.Side = false }), api.ErrRange},
		{"beyond the bottom", block(3, func(b *api.Block) { b.Z = 2499 }), api.OK},
		{"beyond the bottom", block(3, func(b *api.Block) { b.Z = 2500 }), api.ErrMissing},
	}
}

func TestCheck(t *testing.T) {
	want(t, "the raft", docking.Check(raft()), api.OK)
	for _, c := range changes() {
		d := apply(c)
		wantError(t, c.what, c.e, docking.Check(d))
		wantError(t, c.what, c.e, docking.Check(oddDocking(d)))
	}
}

// A block at the edges of strips; that of the tug's first two meet at 2000.5, the last two have a
// gap from 4201.5 to 5500.
func TestBlocksUnderStrips(t *testing.T) {
	for x, e := range map[int]api.Errno{
		-1: api.ErrMissing, 0: api.OK, 2000: api.OK, 2001: api.OK, 4201: api.OK, 4202: api.ErrMissing,
		5499: api.ErrMissing, 5500: api.OK, 10499: api.OK, 10500: api.ErrMissing,
	} {
		d := tug()
		d.Zones = nil
		d.Blocks = []api.Block{{X: x, Half: 1, Width: 1, Stiff: num("1")}}
		wantError(t, "a block at "+strconv.Itoa(x), e, docking.Check(d))
	}
}

// The zone Drain is from 7000 to 7400 and 900 to each side.
func TestZones(t *testing.T) {
	for _, x := range []struct {
		b api.Block
		e api.Errno
	}{
		{keel(6500), api.OK},
		{keel(6501), api.ErrZone},
		{keel(7200), api.ErrZone},
		{keel(7899), api.ErrZone},
		{keel(7900), api.OK},
		{side(7200, 1400), api.OK},
		{side(7200, 1399), api.ErrZone},
		{api.Block{X: 7200, Z: 1400, Half: 1, Width: 1001, Stiff: num("1"), Side: true}, api.ErrZone},
		{api.Block{X: 7200, Z: 1401, Half: 1, Width: 1001, Stiff: num("1"), Side: true}, api.OK},
	} {
		d := tug()
		d.Blocks = []api.Block{x.b}
		wantError(t, "a block in a zone", x.e, docking.Check(d))
		slices.Reverse(d.Zones)
		wantError(t, "a block in the first zone", x.e, docking.Check(d))
	}
	// a zone of no length keeps blocks away from its place, one of no width those on the centre line
	d := tug()
	d.Zones = []api.Zone{{Name: "Line", From: 7000, To: 7000, Half: 0}}
	d.Blocks = []api.Block{keel(7499)}
	wantError(t, "a block in a line", api.ErrZone, docking.Check(d))
	d.Blocks[0] = keel(7500)
	want(t, "a block behind a line", docking.Check(d), api.OK)
	d.Blocks[0] = side(7000, 500)
	want(t, "a block beside a line", docking.Check(d), api.OK)
}

func TestClashes(t *testing.T) {
	// an odd block from 7600 to 8400 along the ship, 301 across
	first := api.Block{X: 8000, Half: 400, Width: 301, Stiff: num("1")}
	pair := api.Block{X: 8000, Z: 1000, Half: 400, Width: 301, Stiff: num("1"), Side: true}
	for _, x := range []struct {
		a, b api.Block
		e    api.Errno
	}{
		{first, keel(8899), api.ErrClash},
		{first, keel(8900), api.OK},
		{first, keel(7101), api.ErrClash},
		{first, keel(7100), api.OK},
		{first, keel(8000), api.ErrClash},
		{first, side(8000, 651), api.OK},
		{first, side(8000, 650), api.ErrClash},
		{first, side(8899, 650), api.ErrClash},
		{first, side(8900, 650), api.OK},
		{pair, side(8000, 1651), api.OK},
		{pair, side(8000, 1650), api.ErrClash},
		{pair, side(8899, 1000), api.ErrClash},
		{pair, side(8900, 1000), api.OK},
		{pair, keel(8000), api.OK},
		{pair, api.Block{X: 8000, Half: 1, Width: 1700, Stiff: num("1")}, api.ErrClash},
		{pair, api.Block{X: 8000, Half: 1, Width: 1699, Stiff: num("1")}, api.OK},
	} {
		d := tug()
		d.Zones = nil
		for _, l := range [][]api.Block{{x.a, x.b}, {x.b, x.a}, {x.a, keel(600), x.b}} {
			d.Blocks = l
			wantError(t, "two blocks", x.e, docking.Check(d))
		}
	}
}

// P1 and R7: of several errors the first one of the chapter, and of several items the first one
// with an error.
func TestCheckOrder(t *testing.T) {
	worse := []func(d *api.Docking){
		func(d *api.Docking) { d.Overhang = -1 },
		func(d *api.Docking) { d.Blocks[2] = d.Blocks[1] },
		func(d *api.Docking) { d.Zones = append(d.Zones, api.Zone{Name: "Step", From: 2900, To: 2950}) },
		func(d *api.Docking) { d.Blocks[1].X = 5000 },
		func(d *api.Docking) { d.Blocks[1].Limit = -1 },
		func(d *api.Docking) { d.Blocks[0].X = 4500 },
		func(d *api.Docking) { d.Blocks = append(d.Blocks, row(40)...) },
		func(d *api.Docking) { d.Zones[1].Half = -1 },
		func(d *api.Docking) { d.Zones[1].Name = "Log" },
		func(d *api.Docking) { d.Zones[0].To = 0 },
		func(d *api.Docking) { d.Zones[0].Name = "" },
		func(d *api.Docking) { d.Zones = append(d.Zones, zones(20)...) },
		func(d *api.Docking) { d.Density = 0 },
		func(d *api.Docking) { d.Ship.Light.Mass, d.Ship.Light.Name = 0, "" },
	}
	errors := []api.Errno{
		api.ErrRange, api.ErrClash, api.ErrZone, api.ErrMissing, api.ErrRange, api.ErrMissing, api.ErrLarge,
		api.ErrRange, api.ErrExists, api.ErrRange, api.ErrName, api.ErrLarge, api.ErrRange, api.ErrName,
	}
	d := tug()
	for i, change := range worse {
		change(&d)
		wantError(t, "change "+strconv.Itoa(i), errors[i], docking.Check(d))
	}
}

// P1: no number is too great.
func TestCheckOfExtremes(t *testing.T) {
	for _, n := range []int{math.MinInt, math.MinInt + 1, math.MaxInt - 1, math.MaxInt} {
		for _, do := range []func(d *api.Docking){
			func(d *api.Docking) { d.Density = n },
			func(d *api.Docking) { d.GM = n },
			func(d *api.Docking) { d.Overhang = n },
			zone(0, func(z *api.Zone) { z.From = n }),
			zone(0, func(z *api.Zone) { z.To = n }),
			zone(0, func(z *api.Zone) { z.Half = n }),
			block(3, func(b *api.Block) { b.X = n }),
			block(3, func(b *api.Block) { b.Z = n }),
			block(3, func(b *api.Block) { b.Half = n }),
			block(3, func(b *api.Block) { b.Height = n }),
			block(3, func(b *api.Block) { b.Width = n }),
			block(3, func(b *api.Block) { b.Limit = n }),
		} {
			wantError(t, "an extreme", api.ErrRange, docking.Check(apply(change{do: do})))
		}
		_, e := docking.Bottom(ship(), n, 0)
		wantError(t, "Bottom", api.ErrRange, e)
		_, e = docking.Bottom(ship(), 0, n)
		wantError(t, "Bottom", api.ErrRange, e)
	}
}

func TestBottom(t *testing.T) {
	s := tug().Ship
	for _, x := range []struct {
		x, z, level int
		e           api.Errno
	}{
		{0, 0, 300, api.OK},
		{-1, 0, 0, api.ErrMissing},
		{2000, 0, 300, api.OK},
		{2001, 0, 200, api.OK},
		{2001, 699, 200, api.OK},
		{2001, 700, 800, api.OK},
		{4201, 2299, 800, api.OK},
		{4201, 2300, 0, api.ErrMissing},
		{4202, 0, 0, api.ErrMissing},
		{5499, 0, 0, api.ErrMissing},
		{5500, 0, 50, api.OK},
		{10499, 2499, 50, api.OK},
		{10499, 2500, 0, api.ErrMissing},
		{10500, 0, 0, api.ErrMissing},
		{0, 999, 300, api.OK},
		{0, 1000, 900, api.OK},
		{-1000000, 0, 0, api.ErrMissing},
		{-1000001, 0, 0, api.ErrRange},
		{1000000, 100000, 0, api.ErrMissing},
		{1000001, 0, 0, api.ErrRange},
		{600, -1, 0, api.ErrRange},
		{600, 100001, 0, api.ErrRange},
	} {
		level, e := docking.Bottom(s, x.x, x.z)
		want(t, "the error", e, x.e)
		want(t, "the bottom", level, x.level)
	}
	s.Name = "-"
	level, e := docking.Bottom(s, 1000001, -1)
	wantError(t, "a ship without a name", api.ErrName, e, level)
}

func TestBottomBySecondOpinion(t *testing.T) {
	r := rand.New(rand.NewSource(21))
	count := map[bool]int{}
	for range 2000 {
		s := randomDocking(r).Ship
		x, z := r.Intn(8000)-500, r.Intn(2500)*r.Intn(2)
		wanted, found := secondBottom(s, x, z)
		level, e := docking.Bottom(s, x, z)
		want(t, "the bottom", level, wanted)
		want(t, "a bottom", e == api.OK, found)
		if !found {
			want(t, "the error", e, api.ErrMissing)
		}
		count[found]++
	}
	if count[true] < 100 || count[false] < 100 {
		t.Errorf("only %v bottoms", count)
	}
}

// R1: every function returns the error of its docking first, and nothing beside it.
func TestErrorsOfDockings(t *testing.T) {
	for _, c := range changes() {
		if c.e == api.OK {
			continue
		}
		d := apply(c)
		wantAll(t, c.what, d, c.e)
		// a ship that can not be docked either way
		d.Ship.Light.Mass = 1000000000
		wantAll(t, c.what, d, c.e)
	}
	d := tug()
	d.Ship.Length = 0
	want(t, "the ship", hull.Check(d.Ship), api.ErrRange)
	wantAll(t, "the ship", d, api.ErrRange)
}

// wantAll calls all functions with a docking, and with other arguments that are wrong, too.
func wantAll(t *testing.T, what string, d api.Docking, wanted api.Errno) {
	t.Helper()
	long, far := make([]int, 201), course(-100001)
	s, e := docking.Blocks(d)
	wantError(t, what+": Blocks", wanted, e, s)
	s, e = docking.Supports(d, num("5"))
	wantError(t, what+": Supports", wanted, e, s)
	at, e := docking.At(d, num("-10000001"))
	wantError(t, what+": At", wanted, e, at)
	w, e := docking.Touch(d)
	wantError(t, what+": Touch", wanted, e, w)
	f, e := docking.Failures(d, num("-10000001"))
	wantError(t, what+": Failures", wanted, e, f)
	aft, fore, e := docking.Overhang(d)
	wantError(t, what+": Overhang", wanted, e, aft, fore)
	for _, n := range []int{-1, 0} {
		out, e := docking.Lay(d, api.Pattern{Count: n, Step: n})
		wantError(t, what+": Lay", wanted, e, out)
		out, e = docking.Drop(d, n)
		wantError(t, what+": Drop", wanted, e, out)
	}
	l, e := docking.Strength(d, num("-10000001"))
	wantError(t, what+": Strength", wanted, e, l)
	for _, c := range [][]int{nil, course(0), long, far} {
		all, e := docking.Follow(d, c)
		wantError(t, what+": Follow", wanted, e, all)
		v, e := docking.Judge(d, c)
		wantError(t, what+": Judge", wanted, e, v)
		n, e := docking.Spare(d, c)
		wantError(t, what+": Spare", wanted, e, n)
		names, e := docking.Help(d, c, make([]api.Load, 7))
		wantError(t, what+": Help", wanted, e, names)
		i, e := docking.Lift(d, c)
		wantError(t, what+": Lift", wanted, e, i)
	}
}
