package water_test

import (
	"math"
	"math/rand"
	"testing"

	"keelblock/api"
	"keelblock/water"
)

// P5.1

// A basinChange makes the basin of the first example right or wrong.
type basinChange struct {
	what string
	do   func(b *api.Basin)
	e    api.Errno
}

func changedBasin(c basinChange) api.Basin {
	b := stepped()
	c.do(&b)
	return b
}

// areas puts so many into a basin, the first one from a level.
func areas(n, from int) func(b *api.Basin) {
	return func(b *api.Basin) {
		b.Areas = nil
		for i := range n {
			b.Areas = append(b.Areas, api.Area{From: from + i, Size: 1 + i})
		}
	}
}

func basinChanges() []basinChange {
	return append(basinNames(), basinSizes()...)
}

func basinNames() []basinChange {
	var l []basinChange
	for name, e := range map[string]api.Errno{
		"a": api.OK, "Z": api.OK, "Abc-def-1234": api.OK, "A-": api.OK,
		"": api.ErrName, "1a": api.ErrName, "-a": api.ErrName, "Abc-def-12345": api.ErrName, "a b": api.ErrName, "é": api.ErrName,
	} {
		l = append(l, basinChange{"the name " + name, func(b *api.Basin) { b.Name = name }, e})
	}
	return append(l, basinChange{"the name before the areas", func(b *api.Basin) { b.Name, b.Areas = "", nil }, api.ErrName})
}

func basinSizes() []basinChange {
	return []basinChange{
		{"nothing", func(b *api.Basin) {}, api.OK},
		{"no areas", areas(0, 0), api.ErrRange},
		{"one area", areas(1, 0), api.OK},
		{"20 areas", areas(20, 0), api.OK},
		{"21 areas", areas(21, 0), api.ErrRange},
		{"the number of areas before their order", func(b *api.Basin) { b.Areas = make([]api.Area, 21); b.Areas[0].Size = 1 }, api.ErrRange},
		{"From", func(b *api.Basin) { b.Areas[0].From = -1000001 }, api.ErrRange},
		{"From", func(b *api.Basin) { b.Areas[0].From = -1000000 }, api.OK},
		{"From", func(b *api.Basin) { b.Areas[0].From = 1000000 }, api.ErrOrder},
		{"From", func(b *api.Basin) { b.Areas[0].From = 1000001 }, api.ErrRange},
		{"From", func(b *api.Basin) { b.Areas[1].From, b.Rim = 999999, 1000000 }, api.OK},
		{"From of the second one", func(b *api.Basin) { b.Areas[1].From = math.MaxInt }, api.ErrRange},
		{"Size", func(b *api.Basin) { b.Areas[0].Size = 0 }, api.ErrRange},
		{"Size", func(b *api.Basin) { b.Areas[0].Size = 1 }, api.OK},
		{"Size", func(b *api.Basin) { b.Areas[0].Size = 1000000 }, api.OK},
		{"Size", func(b *api.Basin) { b.Areas[0].Size = 1000001 }, api.ErrRange},
		{"Size of the second one", func(b *api.Basin) { b.Areas[1].Size = 0 }, api.ErrRange},
		{"equal levels", func(b *api.Basin) { b.Areas[1].From = 0 }, api.ErrOrder},
		{"falling levels", func(b *api.Basin) { b.Areas[1].From = -1 }, api.ErrOrder},
		{"rising levels", func(b *api.Basin) { b.Areas[1].From = 1 }, api.OK},
		{"the size before the order", func(b *api.Basin) { b.Areas[1] = api.Area{From: 0, Size: 0} }, api.ErrRange},
		{"the order before the size of the next one", func(b *api.Basin) {
			b.Areas = []api.Area{{From: 0, Size: 1}, {From: 0, Size: 1}, {From: 1, Size: 0}}
		}, api.ErrOrder},
		{"the order before the rim", func(b *api.Basin) { b.Areas[1].From, b.Rim = 0, 0 }, api.ErrOrder},
		{"the rim at the last area", func(b *api.Basin) { b.Rim = 1000 }, api.ErrRange},
		{"the rim above the last area", func(b *api.Basin) { b.Rim = 1001 }, api.OK},
		{"a low rim", func(b *api.Basin) { b.Rim = math.MinInt }, api.ErrRange},
		{"a high rim", func(b *api.Basin) { b.Rim = 1000000 }, api.OK},
		{"a high rim", func(b *api.Basin) { b.Rim = 1000001 }, api.ErrRange},
	}
}

func TestCheckBasin(t *testing.T) {
	for _, c := range basinChanges() {
		want(t, c.what, water.CheckBasin(changedBasin(c)), c.e)
	}
}

// Example 1.
func TestVolumeAndLevelOfTheExample(t *testing.T) {
	for _, x := range [][2]int{{0, 0}, {1, 100}, {999, 99900}, {1000, 100000}, {1001, 100200}, {1500, 200000}, {3000, 500000}} {
		litres, e := water.Volume(stepped(), x[0])
		want(t, "the volume", []any{litres, e}, []any{x[1], api.OK})
	}
	for _, x := range [][2]int{{0, 0}, {99, 0}, {100, 1}, {99999, 999}, {100000, 1000}, {100199, 1000}, {100200, 1001}, {499999, 2999}, {500000, 3000}} {
		level, e := water.Level(stepped(), x[0])
		want(t, "the level", []any{level, e}, []any{x[1], api.OK})
	}
}

func TestVolumeAndLevelErrors(t *testing.T) {
	for _, c := range basinChanges() {
		if c.e == api.OK {
			continue
		}
		litres, e := water.Volume(changedBasin(c), 500)
		wantError(t, c.what, c.e, e, litres)
		level, e := water.Level(changedBasin(c), 500)
		wantError(t, c.what, c.e, e, level)
	}
	for _, level := range []int{math.MinInt, -1, 3001, math.MaxInt} {
		litres, e := water.Volume(stepped(), level)
		wantError(t, "a level beyond the basin", api.ErrRange, e, litres)
	}
	for _, litres := range []int{math.MinInt, -1, 500001, math.MaxInt} {
		level, e := water.Level(stepped(), litres)
		wantError(t, "more or less than the basin holds", api.ErrRange, e, level)
	}
	b := stepped()
	b.Name = "1"
	_, e := water.Volume(b, -1)
	want(t, "the basin before the level", e, api.ErrName)
	_, e = water.Level(b, -1)
	want(t, "the basin before the litres", e, api.ErrName)
}

// secondVolume adds up the basin millimetre by millimetre.
func secondVolume(b api.Basin, level int) int {
	sum := 0
	for z := b.Areas[0].From; z < level; z++ {
		size := 0
		for _, a := range b.Areas {
			if a.From <= z {
				size = a.Size
			}
		}
		sum += size
	}
	return sum
}

// secondLevel tries all levels.
func secondLevel(b api.Basin, litres int) int {
	level := b.Areas[0].From
	for level < b.Rim && secondVolume(b, level+1) <= litres {
		level++
	}
	return level
}

// randomBasin is so small that all its levels and litres can be tried.
func randomBasin(r *rand.Rand, name string) api.Basin {
	b := api.Basin{Name: name}
	level := between(r, -6, 6)
	for range between(r, 1, 3) {
		b.Areas = append(b.Areas, api.Area{From: level, Size: between(r, 1, 4)})
		level += between(r, 1, 4)
	}
	b.Rim = level + r.Intn(3)
	return b
}

func TestVolumeAndLevelBySecondOpinion(t *testing.T) {
	r := rand.New(rand.NewSource(51))
	for range 300 {
		b := randomBasin(r, "B")
		for level := b.Areas[0].From; level <= b.Rim; level++ {
			litres, e := water.Volume(b, level)
			want(t, "the volume", []any{litres, e}, []any{secondVolume(b, level), api.OK})
		}
		full := secondVolume(b, b.Rim)
		for litres := range full + 1 {
			level, e := water.Level(b, litres)
			want(t, "the level", []any{level, e}, []any{secondLevel(b, litres), api.OK})
		}
		_, e := water.Level(b, full+1)
		want(t, "more than the basin holds", e, api.ErrRange)
	}
}

func TestTheGreatestBasin(t *testing.T) {
	b := api.Basin{Name: "Greatest", Rim: 1000000}
	for i := range 20 {
		b.Areas = append(b.Areas, api.Area{From: -1000000 + i, Size: 1000000})
	}
	const full = 2000000 * 1000000
	litres, e := water.Volume(b, 1000000)
	want(t, "the capacity", []any{litres, e}, []any{full, api.OK})
	for _, x := range [][2]int{{full, 1000000}, {full - 1, 999999}, {0, -1000000}, {19999999, -999981}, {20000000, -999980}} {
		level, e := water.Level(b, x[0])
		want(t, "the level", []any{level, e}, []any{x[1], api.OK})
	}
}
