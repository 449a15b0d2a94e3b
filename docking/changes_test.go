package docking_test

import (
	"fmt"
	"math"
	"math/rand"
	"slices"
	"testing"

	"keelblock/api"
	"keelblock/docking"
	"keelblock/hull"
)

// P4.5

// placed is the same block at other places.
func placed(b api.Block, places ...int) []api.Block {
	var l []api.Block
	for _, x := range places {
		b.X = x
		l = append(l, b)
	}
	return l
}

func TestLay(t *testing.T) {
	small := api.Block{Half: 300, Height: 1400, Width: 500, Stiff: odd(num("7/3")), Limit: 9}
	pair := small
	pair.Side, pair.Z = true, 1000
	for _, x := range []struct {
		what        string
		b           api.Block
		from        int
		step, count int
		places      []int
	}{
		{"no blocks", small, 0, 1000, 0, nil},
		{"one block", small, 10000, 100000, 1, []int{10000}},
		{"a row", small, 1000, 1000, 3, []int{1000, 2000, 3000}},
		// the blocks of the raft leave the places from 5800 to 14200
		{"a row over others", small, 3000, 800, 6, []int{3000, 3800, 6200, 7000}},
		{"a row of pairs over others", pair, 3000, 800, 3, []int{3000, 3800, 4600}},
		{"the first blocks of several that clash", small, 6000, 200, 8, []int{6000, 6600, 7200}},
		{"from outside of the hull", small, -1700, 700, 5, []int{400, 1100}},
		{"to outside of the hull", small, 18700, 700, 5, []int{18700, 19400}},
		{"from far away", small, -1000001, 91000, 12, []int{999}},
		{"from very far away", small, math.MinInt, 1, 40, nil},
		{"to very far away", small, math.MaxInt - 3, 1, 40, nil},
	} {
		x.b.X = x.from
		d, e := docking.Lay(raft(), api.Pattern{Block: x.b, Step: x.step, Count: x.count})
		wanted := raft()
		wanted.Blocks = append(wanted.Blocks, placed(x.b, x.places...)...)
		want(t, x.what+": error", e, api.OK)
		want(t, x.what, d, wanted)
		want(t, x.what+": the check", docking.Check(d), api.OK)
	}
}

// Whatever the error of a block is, the next one is tried.
func TestLayLeavesOut(t *testing.T) {
	for _, c := range []func(b *api.Block){
		func(b *api.Block) { b.Half = 0 },
		func(b *api.Block) { b.Stiff = api.Rat{} },
		func(b *api.Block) { b.Z = 5 },
		func(b *api.Block) { b.Z, b.Side = 4000, true },
	} {
		b := keel(8000)
		c(&b)
		d, e := docking.Lay(raft(), api.Pattern{Block: b, Step: 1500, Count: 3})
		want(t, "the error", e, api.OK)
		want(t, "no block fits", d, raft())
	}
	zoned := raft()
	zoned.Zones = []api.Zone{{Name: "Log", From: 9000, To: 9100, Half: 5}, {Name: "Drain", From: 11000, To: 11200, Half: 500}}
	d, e := docking.Lay(zoned, api.Pattern{Block: keel(7000), Step: 1000, Count: 8})
	zoned.Blocks = append(zoned.Blocks, placed(keel(0), 7000, 8000, 10000, 12000, 13000, 14000)...)
	want(t, "the error", e, api.OK)
	want(t, "between the zones", d, zoned)
}

func TestLayBounds(t *testing.T) {
	b := keel(10000)
	for _, p := range []api.Pattern{
		{Block: b, Step: 1000, Count: -1}, {Block: b, Step: 1000, Count: 41}, {Block: b, Step: 0, Count: 1},
		{Block: b, Step: -1, Count: 1}, {Block: b, Step: 100001, Count: 1}, {Block: b, Step: 0, Count: 0},
		{Block: b, Step: math.MaxInt, Count: math.MaxInt}, {Block: b, Step: math.MinInt, Count: math.MinInt},
	} {
		d, e := docking.Lay(raft(), p)
		wantError(t, fmt.Sprint("the pattern ", p.Step, " ", p.Count), api.ErrRange, e, d)
	}
	thin := api.Block{X: 6000, Half: 1, Height: 5, Width: 5, Stiff: num("1")}
	d, e := docking.Lay(raft(), api.Pattern{Block: thin, Step: 2, Count: 40})
	want(t, "the error", e, api.OK)
	// no more than 40 blocks in all
	want(t, "many blocks", len(d.Blocks), 40)
	want(t, "the last block", d.Blocks[39].X, 6074)
	full, e := docking.Lay(d, api.Pattern{Block: thin, Step: 100000, Count: 40})
	want(t, "the error", e, api.OK)
	want(t, "no more blocks", full, d)
	d, _ = docking.Lay(over(), api.Pattern{Block: thin, Step: 1, Count: 40})
	want(t, "every second block", len(d.Blocks), 20)
}

func TestLayBySecondOpinion(t *testing.T) {
	r := rand.New(rand.NewSource(27))
	for range 300 {
		d := randomDocking(r)
		b := api.Block{X: r.Intn(4000) - 500, Half: 1 + r.Intn(300), Height: 900, Width: 1 + r.Intn(300), Stiff: num("5/2"), Limit: 7}
		if r.Intn(3) == 0 {
			b.Side, b.Z = true, 200+r.Intn(900)
		}
		p := api.Pattern{Block: b, Step: 1 + r.Intn(700), Count: r.Intn(15)}
		wanted := d
		for i := range p.Count {
			longer := wanted
			longer.Blocks = slices.Concat(wanted.Blocks, placed(b, b.X+i*p.Step))
			if docking.Check(longer) == api.OK {
				wanted = longer
			}
		}
		got, e := docking.Lay(d, p)
		want(t, "the error", e, api.OK)
		want(t, "the docking", got, wanted)
	}
}

func TestDrop(t *testing.T) {
	for i := range 4 {
		for _, d := range []api.Docking{tug(), oddDocking(tug())} {
			wanted := d
			wanted.Blocks = slices.Concat(d.Blocks[:i], d.Blocks[i+1:])
			got, e := docking.Drop(d, i)
			want(t, "the error", e, api.OK)
			want(t, fmt.Sprint("without block ", i), got, wanted)
		}
	}
	for _, i := range []int{-1, 4, math.MinInt, math.MaxInt} {
		d, e := docking.Drop(tug(), i)
		wantError(t, fmt.Sprint("without block ", i), api.ErrMissing, e, d)
	}
	d, e := docking.Drop(over(), 0)
	wantError(t, "no blocks", api.ErrMissing, e, d)
	d, e = docking.Drop(over(keel(5000)), 0)
	want(t, "the error", e, api.OK)
	want(t, "the last block", d, over())
}

// What is laid and dropped again changes nothing.
func TestLayAndDrop(t *testing.T) {
	d, _ := docking.Lay(tug(), api.Pattern{Block: keel(6200), Step: 1, Count: 1})
	want(t, "blocks", len(d.Blocks), 5)
	d, e := docking.Drop(d, 4)
	want(t, "the error", e, api.OK)
	want(t, "the tug", d, tug())
}

func TestSpare(t *testing.T) {
	five := over(keel(5000), keel(15000), keel(10000), keel(2000), side(12000, 700))
	weak := over(keel(5000), keel(15000), limited(keel(9000), 110000))
	// without one of the others it would carry more than it may
	weak.Overhang = 20000
	held := over(keel(5000), keel(15000), side(10000, 900))
	held.GM = 1300
	untouched := over(keel(5000), keel(15000), limited(keel(10000), 0))
	untouched.Blocks[2].Height = 1000
	// without an outer block the ship can turn about the other ones
	wide := padded()
	wide.Overhang = 20000
	narrow := single()
	narrow.Blocks = []api.Block{keel(9000), keel(10000), keel(11000)}
	for _, x := range []struct {
		what   string
		d      api.Docking
		course []int
		spare  []int
	}{
		{"afloat", raft(), course(5000, 3500), nil},
		{"no levels", raft(), nil, []int{0, 1}},
		{"no levels, one block", over(keel(5000)), nil, []int{0}},
		{"no levels, no blocks", over(), nil, nil},
		{"more blocks", five, course(5000, 3000, 0), []int{0, 2, 3, 4}},
		{"more blocks afloat", five, course(5000), []int{0, 2, 3, 4}},
		{"a weak block", weak, course(5000, 0), []int{2}},
		{"a weak block afloat", weak, course(5000), []int{0, 1, 2}},
		{"a pair that holds", held, course(3000), nil},
		{"a pair that need not hold", held, course(0), []int{2}},
		{"a pair without load", held, course(5000), []int{2}},
		{"a block without load", untouched, course(4000, 0), []int{2}},
		{"blocks that are just touched", wide, course(0), []int{1}},
		{"a loose ship without a block", narrow, course(0), []int{1}},
	} {
		for range 2 {
			l, e := docking.Spare(x.d, x.course)
			want(t, x.what+": error", e, api.OK)
			want(t, x.what, l, x.spare)
			x.d = oddDocking(x.d)
		}
	}
}

func TestSpareErrors(t *testing.T) {
	for _, x := range voyages() {
		l, e := docking.Spare(x.d, x.course)
		wantError(t, x.what, x.e, e, l)
	}
	weak := raft()
	weak.Blocks[0].Limit = 159999
	l, e := docking.Spare(weak, course(5000, 0))
	wantError(t, "an overload", api.ErrState, e, l)
	l, e = docking.Spare(weak, course(5000, 0, 100001))
	wantError(t, "an overload before an error of a level", api.ErrState, e, l)
	l, e = docking.Spare(weak, course(5000, 100001, 0))
	wantError(t, "an overload behind an error of a level", api.ErrRange, e, l)
	l, e = docking.Spare(tipping(), course(0))
	wantError(t, "tipping", api.ErrState, e, l)
	l, e = docking.Spare(over(), course(5000))
	wantError(t, "no blocks", api.ErrState, e, l)
}

func TestSpareBySecondOpinion(t *testing.T) {
	r := rand.New(rand.NewSource(28))
	count := map[string]int{}
	for range 900 {
		d, levels := easyDocking(r), randomCourse(r)
		v, wanted := docking.Judge(d, levels)
		if wanted == api.OK && !v.OK {
			wanted = api.ErrState
		}
		var spare []int
		for i := range d.Blocks {
			less, _ := docking.Drop(d, i)
			without, e := docking.Judge(less, levels)
			if wanted == api.OK && e == api.OK && without.OK {
				spare = append(spare, i)
			}
			if wanted == api.OK {
				count[fmt.Sprint(e, " ", without.OK)]++
			}
		}
		l, e := docking.Spare(d, levels)
		want(t, "the error", e, wanted)
		want(t, "the spare blocks", l, spare)
	}
	for _, what := range []string{"0 true", "0 false"} {
		if count[what] < 10 {
			t.Errorf("only %v", count)
		}
	}
}

// easyDocking is a random one that often passes its course.
func easyDocking(r *rand.Rand) api.Docking {
	d := randomDocking(r)
	d.GM -= r.Intn(2) * 5000
	d.Overhang = 3000 + r.Intn(2)*5000
	for i := range d.Blocks {
		d.Blocks[i].Limit += r.Intn(2) * 20000
	}
	return d
}

// The options of example 6, and further ones.
func options() []api.Load {
	return []api.Load{
		{Name: "High", Mass: 30000, X: 10000, Z: 3000},
		{Name: "Low", Mass: 32000, X: 10000},
		{Name: "Lower", Mass: 32000, X: 10000, Z: -100},
		{Name: "Aft", Mass: 16000, X: 6000},
		{Name: "Fore", Mass: 16000, X: 14000},
	}
}

func TestHelp(t *testing.T) {
	needy := func(gm int) api.Docking {
		d := raft()
		d.GM = gm
		return d
	}
	l := options()
	for _, x := range []struct {
		what    string
		d       api.Docking
		course  []int
		options []api.Load
		names   []string
	}{
		{"example 6", needy(1700), course(4000), l[:2], []string{"Low"}},
		{"no need", raft(), course(4000, 0), l, nil},
		{"no levels", needy(100000), nil, l, nil},
		{"no options and no need", raft(), course(4000), nil, nil},
		{"the first of two", needy(1700), course(4000), []api.Load{l[2], l[1]}, []string{"Lower"}},
		{"the first of two", needy(1700), course(4000), []api.Load{l[0], l[1], l[2]}, []string{"Low"}},
		{"a better one", needy(1715), course(4000), l[:3], []string{"Lower"}},
		{"two of them", needy(1720), course(4000), l[:3], []string{"Low", "Lower"}},
		{"two of them, in the order of the options", needy(1720), course(4000), []api.Load{l[2], l[0], l[1]}, []string{"Lower", "Low"}},
		{"at two levels", needy(1720), course(4000, 5000), l, []string{"Low", "Lower"}},
		{"the same twice over", needy(1720), course(4000), []api.Load{l[0], l[1], l[2], named("Low2", l[1]), named("Lower2", l[2])}, []string{"Low", "Lower"}},
		{"more than two", needy(1800), course(5000), []api.Load{l[1], l[0], named("Low2", l[1]), l[3], l[2], named("Lower2", l[2])}, []string{"Low", "Low2", "Lower"}},
	} {
		names, e := docking.Help(x.d, x.course, x.options)
		want(t, x.what+": error", e, api.OK)
		want(t, x.what, names, x.names)
	}
}

// Each choice of six options can be the only one that helps: with fewer kilograms at the keel line
// the GM is too low afloat, with more of them the blocks carry too much.
func TestHelpOfEachChoice(t *testing.T) {
	d := raft()
	narrow(&d)
	var l []api.Load
	for i := range 6 {
		l = append(l, api.Load{Name: fmt.Sprint("o", i), Mass: 1000 << i, X: 10000})
	}
	for bits := range 1 << 6 {
		mass := 240000 + 1000*bits
		d.GM = mass/240 - 120000000/mass - 1
		d.Blocks = []api.Block{limited(keel(5000), mass/2), limited(keel(15000), mass/2)}
		var wanted []string
		for i := range 6 {
			if bits>>i&1 == 1 {
				wanted = append(wanted, l[i].Name)
			}
		}
		names, e := docking.Help(d, course(9000, 0), l)
		want(t, "the error", e, api.OK)
		want(t, fmt.Sprint("the choice ", bits), names, wanted)
	}
}

func named(name string, l api.Load) api.Load {
	l.Name = name
	return l
}

// A load may help against tipping, too.
func TestHelpAgainstTipping(t *testing.T) {
	d := raft()
	d.Ship.Light.X = 4000
	d.Blocks = []api.Block{limited(keel(5000), 400000), limited(keel(15000), 400000)}
	names, e := docking.Help(d, course(0), []api.Load{{Name: "Few", Mass: 30000, X: 15000}, {Name: "Heavy", Mass: 80000, X: 15000}})
	want(t, "the error", e, api.OK)
	want(t, "the load", names, []string{"Heavy"})
	// an error is no verdict
	names, e = docking.Help(single(), course(4000), options())
	wantError(t, "a loose raft", api.ErrNone, e, names)
}

func TestHelpErrors(t *testing.T) {
	seven := make([]api.Load, 7)
	needy := raft()
	needy.GM = 1700
	bad := options()
	bad[3].Name = "Low"
	many := needy
	many.Ship.Items = nil
	for i := range 59 {
		many.Ship.Items = append(many.Ship.Items, api.Load{Name: fmt.Sprint("i", i)})
	}
	heavy := api.Load{Name: "Heavy", Mass: 1000000000, X: 10000}
	for _, x := range []struct {
		what    string
		d       api.Docking
		course  []int
		options []api.Load
		e       api.Errno
	}{
		{"a long course", raft(), make([]int, 201), seven, api.ErrLarge},
		{"a long course", raft(), make([]int, 201), bad, api.ErrLarge},
		{"seven options", raft(), course(0), seven, api.ErrLarge},
		{"a name twice", raft(), course(0), bad, api.ErrExists},
		{"the name of the light ship", raft(), course(0), []api.Load{{Name: "Light"}}, api.ErrExists},
		{"no name", needy, course(4000), []api.Load{options()[1], {}}, api.ErrName},
		{"a mass", needy, course(4000), []api.Load{options()[1], {Name: "M", Mass: -1}}, api.ErrRange},
		{"too many items", many, course(4000), options()[:2], api.ErrLarge},
		{"no options", needy, course(4000), nil, api.ErrNone},
		{"no help", needy, course(4000), options()[:1], api.ErrNone},
		{"a level", raft(), course(4000, 100001), options(), api.ErrNone},
		{"a level", raft(), course(-100001), options(), api.ErrNone},
		{"too heavy for a body", needy, course(4000), []api.Load{heavy}, api.ErrNone},
	} {
		names, e := docking.Help(x.d, x.course, x.options)
		wantError(t, x.what, x.e, e, names)
	}
	names, e := docking.Help(many, course(4000), options()[1:2])
	want(t, "60 items: error", e, api.OK)
	want(t, "60 items", names, []string{"Low"})
	names, e = docking.Help(needy, course(4000), []api.Load{heavy, options()[1]})
	want(t, "one too heavy: error", e, api.OK)
	want(t, "one too heavy", names, []string{"Low"})
}

func TestHelpBySecondOpinion(t *testing.T) {
	r := rand.New(rand.NewSource(29))
	count := map[string]int{}
	for range 500 {
		d, levels := easyDocking(r), randomCourse(r)
		var l []api.Load
		for i := range r.Intn(5) {
			l = append(l, api.Load{Name: fmt.Sprint("o", i), Mass: r.Intn(1 + d.Ship.Light.Mass/4), X: r.Intn(8000), Z: r.Intn(500) - 400})
		}
		wanted, found := secondHelp(d, levels, l)
		names, e := docking.Help(d, levels, l)
		want(t, "help", e == api.OK, found)
		want(t, "the names", names, wanted)
		if !found {
			want(t, "the error", e, api.ErrNone)
		}
		count[fmt.Sprint(found, " ", len(names))]++
	}
	for _, what := range []string{"true 0", "true 1", "true 2", "false 0"} {
		if count[what] < 2 {
			t.Errorf("only %v", count)
		}
	}
}

// secondHelp tries all choices, as bits of a number, and keeps the best one.
func secondHelp(d api.Docking, levels []int, l []api.Load) ([]string, bool) {
	var best []int
	found := false
	for bits := range 1 << len(l) {
		var choice []int
		laden := d
		for i, o := range l {
			if bits>>i&1 == 1 {
				choice = append(choice, i)
				laden.Ship, _ = hull.With(laden.Ship, o)
			}
		}
		better := !found || len(choice) < len(best) || len(choice) == len(best) && slices.Compare(choice, best) < 0
		if v, e := docking.Judge(laden, levels); better && e == api.OK && v.OK {
			best, found = choice, true
		}
	}
	var names []string
	for _, i := range best {
		names = append(names, l[i].Name)
	}
	return names, found
}
