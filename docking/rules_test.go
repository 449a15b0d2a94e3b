package docking_test

import (
	"testing"

	"keelblock/api"
	"keelblock/docking"
)

// P1 and P2: what DOC.md's rules say of all functions.

// spacious is a tug whose lists have room behind their ends.
func spacious() api.Docking {
	d := tug()
	d.Blocks = append(make([]api.Block, 0, 20), d.Blocks...)
	for i, b := range d.Blocks {
		d.Blocks[i].Stiff.Num.Limbs = append(make([]uint16, 0, 9), b.Stiff.Num.Limbs...)
		d.Blocks[i].Stiff.Den.Limbs = append(make([]uint16, 0, 9), b.Stiff.Den.Limbs...)
	}
	d.Zones = append(make([]api.Zone, 0, 20), d.Zones...)
	s := &d.Ship
	s.Items = append(make([]api.Load, 0, 20), s.Items...)
	s.Stations = append(make([]api.Station, 0, 20), s.Stations...)
	for i, c := range s.Stations {
		s.Stations[i].Levels = append(make([]int, 0, 20), c.Levels...)
		s.Stations[i].Halves = append(make([]int, 0, 20), c.Halves...)
	}
	return d
}

func dockings() []api.Docking {
	l := []api.Docking{{}, spacious(), oddDocking(spacious()), over(), single(), tipping(), padded()}
	easy := spacious()
	easy.GM, easy.Overhang = -100000, 1000000
	for i := range easy.Blocks {
		easy.Blocks[i].Limit = 1000000000
	}
	hard := spacious()
	hard.GM = 100000
	return append(l, easy, hard)
}

func TestResultsAreNew(t *testing.T) {
	for _, d := range dockings() {
		wantOwn(t, "Check", docking.Check, d)
		wantOwn(t, "Blocks", docking.Blocks, d)
		wantOwn(t, "Touch", docking.Touch, d)
		wantOwn(t, "Overhang", docking.Overhang, d)
		wantOwn(t, "Bottom", docking.Bottom, d.Ship, 1000, 900)
		for _, level := range []api.Rat{{}, num("1500"), num("3100/3"), odd(num("2900")), num("9000"), num("10000001")} {
			wantOwn(t, "Supports", docking.Supports, d, level)
			wantOwn(t, "At", docking.At, d, level)
			wantOwn(t, "Failures", docking.Failures, d, level)
			wantOwn(t, "Strength", docking.Strength, d, level)
		}
		for _, c := range [][]int{nil, course(5000), append(make([]int, 0, 9), 5000, 3000, 1000, 0, 5000), course(0, 100001)} {
			wantOwn(t, "Follow", docking.Follow, d, c)
			wantOwn(t, "Judge", docking.Judge, d, c)
			wantOwn(t, "Spare", docking.Spare, d, c)
			wantOwn(t, "Lift", docking.Lift, d, c)
			wantOwn(t, "Help", docking.Help, d, c, append(make([]api.Load, 0, 9), options()...))
		}
		for _, b := range []api.Block{keel(400), spacious().Blocks[0], oddDocking(spacious()).Blocks[3]} {
			wantOwn(t, "Lay", docking.Lay, d, api.Pattern{Block: b, Step: 700, Count: 15})
			wantOwn(t, "Lay", docking.Lay, d, api.Pattern{Block: b, Step: 0, Count: 15})
		}
		for i := -1; i <= 4; i++ {
			wantOwn(t, "Drop", docking.Drop, d, i)
		}
	}
}

// What is done to a result has no effect on its argument, nor on the next call.
func TestResultsMayBeOverwritten(t *testing.T) {
	d, b := spacious(), spacious().Blocks[0]
	for _, change := range []func() (api.Docking, api.Errno){
		func() (api.Docking, api.Errno) { return docking.Drop(d, 0) },
		func() (api.Docking, api.Errno) { return docking.Drop(d, 3) },
		func() (api.Docking, api.Errno) { return docking.Lay(d, api.Pattern{Block: b, Step: 700, Count: 0}) },
		func() (api.Docking, api.Errno) { return docking.Lay(d, api.Pattern{Block: b, Step: 700, Count: 15}) },
	} {
		out, e := change()
		before, _ := change()
		want(t, "the error", e, api.OK)
		spoil(out)
		want(t, "the argument", d, tug())
		want(t, "the block", b, tug().Blocks[0])
		again, _ := change()
		want(t, "the next call", again, before)
	}
	s, _ := docking.At(d, num("1500"))
	before, _ := docking.At(d, num("1500"))
	for _, x := range []api.Rat{s.Level, s.Attitude.Sink, s.Attitude.Slope, s.Loads[0], s.Upthrust, s.Buoyancy, s.Stable.KM, s.Stable.KG, s.Stable.GM, s.Stable.Other} {
		x.Den.Limbs[0] = 7
	}
	want(t, "the argument", d, tug())
	again, _ := docking.At(d, num("1500"))
	want(t, "the next call", again, before)
}

func spoil(d api.Docking) {
	for i := range d.Blocks {
		d.Blocks[i].Stiff.Num.Limbs[0] = 7
		d.Blocks[i].Stiff.Den.Limbs[0] = 7
		d.Blocks[i].X = 7
	}
	for i := range d.Zones {
		d.Zones[i] = api.Zone{}
	}
	for i := range d.Ship.Items {
		d.Ship.Items[i] = api.Load{}
	}
	for i := range d.Ship.Stations {
		d.Ship.Stations[i].Levels[0], d.Ship.Stations[i].Halves[0] = 7, 7
		d.Ship.Stations[i].X = 7
	}
}

// The blocks of Lay and Drop keep their numbers as they are written.
func TestBlocksStayAsTheyAre(t *testing.T) {
	d := oddDocking(tug())
	less, _ := docking.Drop(d, 1)
	want(t, "Drop", less.Blocks[0], d.Blocks[0])
	more, _ := docking.Lay(less, api.Pattern{Block: d.Blocks[1], Step: 5, Count: 3})
	want(t, "Lay", more.Blocks[3], d.Blocks[1])
	want(t, "Lay", more.Blocks[:3], less.Blocks)
}

// R9: a result is the same for all representations of the arguments.
func TestRepresentations(t *testing.T) {
	for _, d := range dockings() {
		o := oddDocking(d)
		for _, c := range [][]int{course(5000), course(5000, 1500, 0), course(1000)} {
			l, e := docking.Follow(d, c)
			l2, e2 := docking.Follow(o, c)
			want(t, "Follow", []any{l2, e2}, []any{l, e})
			v, e := docking.Judge(d, c)
			v2, e2 := docking.Judge(o, c)
			want(t, "Judge", []any{v2, e2}, []any{v, e})
			n, e := docking.Spare(d, c)
			n2, e2 := docking.Spare(o, c)
			want(t, "Spare", []any{n2, e2}, []any{n, e})
			names, e := docking.Help(d, c, options())
			names2, e2 := docking.Help(o, c, options())
			want(t, "Help", []any{names2, e2}, []any{names, e})
			i, e := docking.Lift(d, c)
			i2, e2 := docking.Lift(o, c)
			want(t, "Lift", []any{i2, e2}, []any{i, e})
		}
		w, e := docking.Touch(d)
		w2, e2 := docking.Touch(o)
		want(t, "Touch", []any{w2, e2}, []any{w, e})
		b, e := docking.Blocks(d)
		b2, e2 := docking.Blocks(o)
		want(t, "Blocks", []any{b2, e2}, []any{b, e})
	}
}
