package docking_test

import (
	"math/rand"
	"slices"
	"testing"

	"keelblock/api"
	"keelblock/docking"
	"keelblock/exact"
	"keelblock/hull"
)

// P4.2

// spring is the support of a block.
func spring(x int, c, stiff string) api.Support {
	return api.Support{X: x, C: num(c), Curve: api.Curve{Starts: []int{0}, Slopes: nums(stiff)}}
}

func TestBlocks(t *testing.T) {
	// the bottoms are at 300, 200 and 50
	wanted := []api.Support{
		spring(600, "1300", "2000/3"), spring(3000, "1300", "900"), spring(9000, "1253", "1700/7"), spring(9000, "1240", "800"),
	}
	for _, d := range []api.Docking{tug(), oddDocking(tug())} {
		l, e := docking.Blocks(d)
		want(t, "the error", e, api.OK)
		want(t, "the blocks", l, wanted)
	}
	l, e := docking.Blocks(over())
	want(t, "the error", e, api.OK)
	want(t, "no blocks", l, []api.Support{})
}

func TestBlocksUnderSteps(t *testing.T) {
	d := tug()
	d.Zones = nil
	d.Blocks = []api.Block{
		{X: 3101, Half: 10, Height: 0, Width: 10, Stiff: num("1/2")},
		{X: 3101, Z: 699, Half: 10, Height: 100000, Width: 10, Stiff: num("7/2"), Side: true},
		{X: 3101, Z: 711, Half: 10, Height: 60, Width: 10, Stiff: num("3"), Side: true},
		{X: 1000, Z: 1400, Half: 10, Height: 900, Width: 10, Stiff: num("5"), Side: true},
	}
	l, e := docking.Blocks(d)
	want(t, "the error", e, api.OK)
	want(t, "the blocks", l, []api.Support{
		spring(3101, "-200", "1/2"), spring(3101, "99800", "7"), spring(3101, "-740", "6"), spring(1000, "0", "10"),
	})
}

func TestSupports(t *testing.T) {
	d := tug()
	blocks, _ := docking.Blocks(d)
	water, _ := hull.Supports(d.Ship, d.Density)
	for _, text := range []string{"0", "1500", "-1300", "10001/7", "100000000000000000000"} {
		wanted := slices.Clone(blocks)
		for _, s := range water {
			s.C = num(text)
			wanted = append(wanted, s)
		}
		for _, level := range []api.Rat{num(text), odd(num(text))} {
			l, e := docking.Supports(d, level)
			want(t, "the error", e, api.OK)
			want(t, "the supports", l, wanted)
		}
	}
	l, e := docking.Supports(over(), api.Rat{})
	want(t, "the error", e, api.OK)
	want(t, "no blocks", l, []api.Support{
		{X: 5000, C: num("0"), Curve: api.Curve{Starts: []int{0, 3000}, Slopes: nums("80", "0")}},
		{X: 15000, C: num("0"), Curve: api.Curve{Starts: []int{0, 3000}, Slopes: nums("80", "0")}},
	})
}

func TestSupportsBySecondOpinion(t *testing.T) {
	r := rand.New(rand.NewSource(22))
	for range 300 {
		d, level := randomDocking(r), ratio(r.Intn(5000)-1000, 1+r.Intn(9))
		wanted := secondSupports(d, level)
		l, e := docking.Supports(d, level)
		want(t, "the error", e, api.OK)
		want(t, "the supports", l, wanted)
		l, e = docking.Blocks(d)
		want(t, "the error", e, api.OK)
		want(t, "the blocks", l, wanted[:len(d.Blocks)])
	}
}

// secondSupports are the supports in the words of the chapter.
func secondSupports(d api.Docking, level api.Rat) []api.Support {
	var l []api.Support
	for _, b := range d.Blocks {
		bottom, _ := secondBottom(d.Ship, b.X, b.Z)
		stiff := b.Stiff
		if b.Side {
			stiff = exact.AddRat(stiff, stiff)
		}
		l = append(l, api.Support{X: b.X, C: whole(b.Height - bottom), Curve: api.Curve{Starts: []int{0}, Slopes: []api.Rat{stiff}}})
	}
	for _, s := range d.Ship.Stations {
		c := api.Curve{Starts: s.Levels}
		for _, h := range s.Halves {
			c.Slopes = append(c.Slopes, ratio(2*h*s.Width*d.Density, 1000000000))
		}
		c.Slopes = append(c.Slopes, num("0"))
		l = append(l, api.Support{X: s.X, C: level, Curve: c})
	}
	return l
}
