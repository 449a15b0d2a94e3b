package water_test

import (
	"math/rand"
	"testing"

	"keelblock/api"
	"keelblock/water"
)

// P5.4: Flow

// A flowCase is what one gate or pump between A, B and the sea does.
type flowCase struct {
	what   string
	link   api.Link
	a, b   int // litres of the two boxes of the example
	sea    int
	wanted int
}

func gate(from, to string, sill, rate, factor int) api.Link {
	return api.Link{Name: "Link", Kind: api.Gate, From: from, To: to, Sill: sill, Rate: rate, Factor: factor}
}

func pump(from, to string, rate, lift int) api.Link {
	return api.Link{Name: "Link", Kind: api.Pump, From: from, To: to, Rate: rate, Lift: lift}
}

// gateFlows: the boxes hold 100 litres in each of 2000 millimetres.
func gateFlows() []flowCase {
	const much = 1000000000
	return []flowCase{
		{"example 3", gate("A", "B", 0, 1000000, 1000), 100000, 0, 0, 50000},
		{"the other way", gate("B", "A", 0, 1000000, 1000), 100000, 0, 0, -50000},
		{"example 4", gate("A", "B", 800, 1000000, 1000), 100000, 0, 0, 20000},
		{"by the rate", gate("A", "B", 0, 49999, 1000), 100000, 0, 0, 49999},
		{"by the rate 0", gate("A", "B", 0, 0, 1000), 100000, 0, 0, 0},
		{"by the head", gate("A", "B", 0, much, 3), 100000, 0, 0, 3000},
		{"by the head above the sill", gate("A", "B", 800, much, 3), 100000, 0, 0, 600},
		{"by the head above the lower side", gate("A", "B", 800, much, 3), 100000, 90099, 0, 300},
		{"by the factor 0", gate("A", "B", 0, much, 0), 100000, 0, 0, 0},
		{"the greatest numbers", gate("A", "B", -1000000, much, much), 200000, 0, 0, 100000},
		{"down to the sill", gate("A", "B", 500, much, much), 100000, 0, 0, 50000},
		{"down to the sill", gate("A", "B", 501, much, much), 100000, 0, 0, 49900},
		{"down to equal levels", gate("A", "B", 499, much, much), 100000, 0, 0, 50000},
		{"the lower side may keep a part of a millimetre", gate("A", "B", 0, much, much), 100000, 50, 0, 50000},
		{"the lower side may come up to the level", gate("A", "B", 0, much, much), 100050, 99, 0, 50000},
		{"the upper side does not come below", gate("A", "B", 0, much, much), 100050, 150, 0, 50000 - 50},
		{"equal levels", gate("A", "B", 0, much, much), 100000, 100000, 0, 0},
		{"equal levels, more litres in A", gate("A", "B", 0, much, much), 100099, 100000, 0, 0},
		{"equal levels, more litres in B", gate("A", "B", 0, much, much), 100000, 100099, 0, 0},
		{"a millimetre", gate("A", "B", 0, much, much), 100100, 100000, 0, 99},
		{"the upper side at the sill", gate("A", "B", 1000, much, much), 100099, 0, 0, 0},
		{"a millimetre above the sill", gate("A", "B", 1000, much, much), 100100, 0, 0, 100},
		{"a millimetre and a half above the sill", gate("A", "B", 1000, much, much), 100150, 0, 0, 150},
		{"the upper side below the sill", gate("A", "B", 1001, much, much), 100000, 0, 0, 0},
		{"a sill above the rim", gate("A", "B", 1000000, much, much), 200000, 0, 0, 0},
		{"nothing", gate("A", "B", -1000000, much, much), 0, 0, 0, 0},
		{"from the sea", gate("", "A", 0, much, much), 0, 0, 1000, 100099},
		{"to the sea", gate("A", "", 0, much, much), 100000, 0, 300, 70000},
		{"from the sea by To", gate("A", "", 0, much, much), 0, 0, 1000, -100099},
		{"to the sea by From", gate("", "A", 0, much, much), 100099, 0, 300, -70099},
		{"from the sea up to the rim", gate("", "A", 0, much, much), 1000, 0, 2000, 199000},
		{"from a sea above the rim", gate("", "A", 0, much, much), 1000, 0, 1000000, 199000},
		{"to a sea below the floor", gate("A", "", -1000000, much, much), 1234, 0, -1000000, 1234},
		{"to a sea below the floor, by the head", gate("A", "", -1000000, much, 1), 123400, 0, -1000, 2234},
		{"to a sea below the sill", gate("A", "", 100, much, 1), 123400, 0, -1000, 1134},
		{"from a sea below the sill", gate("", "A", 100, much, 1), 0, 0, 100, 0},
		{"from a sea above the sill", gate("", "A", 100, much, 1), 0, 0, 101, 1},
		{"at the level of the sea", gate("", "A", 0, much, 1), 10099, 0, 101, 1},
		{"at the level of the sea", gate("", "A", 0, much, 1), 10199, 0, 101, 0},
		{"Lift of a gate", api.Link{Name: "Link", From: "A", To: "B", Rate: 7, Factor: 7, Lift: -5}, 100000, 0, 0, 7},
	}
}

func pumpFlows() []flowCase {
	const much = 1000000000
	return []flowCase{
		{"by the rate", pump("A", "B", 700, 0), 100000, 0, 0, 700},
		{"by the rate 0", pump("A", "B", 0, 0), 100000, 0, 0, 0},
		{"all litres", pump("A", "B", much, 1000), 1234, 0, 0, 1234},
		{"the last litre", pump("A", "B", much, 1000), 1, 0, 0, 1},
		{"no litre", pump("A", "B", much, 1000), 0, 0, 0, 0},
		{"all the room", pump("A", "B", much, 1000), 190000, 180000, 0, 20000},
		{"no room", pump("A", "B", much, 1000), 190000, 200000, 0, 0},
		{"at the lift", pump("A", "B", 700, 1000), 50099, 150000, 0, 700},
		{"above the lift", pump("A", "B", 700, 1000), 50099, 150100, 0, 0},
		{"above the lift, by the litres below", pump("A", "B", 700, 1000), 49999, 150000, 0, 0},
		{"downward", pump("A", "B", 700, 0), 150000, 50000, 0, 700},
		{"level", pump("A", "B", 700, 0), 50000, 50099, 0, 700},
		{"a millimetre upward", pump("A", "B", 700, 0), 50000, 50100, 0, 0},
		{"the other way", pump("B", "A", 700, 2000), 1000, 500, 0, 500},
		{"into the sea", pump("A", "", much, 900), 12345, 0, 1023, 12345},
		{"into a high sea", pump("A", "", much, 900), 12345, 0, 1024, 0},
		{"from the sea", pump("", "A", much, 0), 190000, 0, 1900, 10000},
		{"from a low sea", pump("", "A", much, 0), 190000, 0, 1899, 0},
		{"from the sea by the rate", pump("", "A", 5, 1), 190000, 0, 1899, 5},
		{"the greatest lift", pump("", "A", 5, 1000000), 0, 0, -1000000, 5},
		{"Sill and Factor of a pump", api.Link{Name: "Link", Kind: api.Pump, From: "A", To: "B", Rate: 7, Sill: 5000000, Factor: -3}, 1000, 0, 0, 7},
	}
}

func TestFlow(t *testing.T) {
	for _, x := range append(gateFlows(), pumpFlows()...) {
		n := api.Network{Basins: []api.Basin{box("A"), box("B")}, Sea: marks(0, x.sea), Links: []api.Link{x.link}}
		w := of(n, holding(x.a, x.b))
		q, e := water.Flow(n, w, "Link")
		want(t, x.what, []any{q, e}, []any{x.wanted, api.OK})
		w.Open[0] = false
		q, e = water.Flow(n, w, "Link")
		want(t, x.what+", shut", []any{q, e}, []any{0, api.OK})
	}
}

// The level of the sea is that of the minute, and so is that of the last minute.
func TestFlowInTheMinute(t *testing.T) {
	n := api.Network{
		Basins: []api.Basin{box("A")}, Sea: marks(10, 500, 20, 600, 999999, 600, 1000000, 700),
		Links: []api.Link{gate("", "A", 0, 1000000, 1)},
	}
	for _, x := range [][2]int{{0, 500}, {10, 500}, {13, 530}, {20, 600}, {999999, 600}, {1000000, 700}} {
		w := of(n, holding(0))
		w.Minute = x[0]
		q, e := water.Flow(n, w, "Link")
		want(t, "the flow", []any{q, e}, []any{x[1], api.OK})
	}
}

func TestFlowOfNoLink(t *testing.T) {
	for _, name := range []string{"", "A", "gate", "Gate2"} {
		q, e := water.Flow(pair(), of(pair(), holding(0, 0)), name)
		wantError(t, "no link", api.ErrMissing, e, q)
	}
	q, e := water.Flow(api.Network{}, api.Water{}, "")
	wantError(t, "no links", api.ErrMissing, e, q)
}

// The links that are asked for are those with the name, and their own positions are looked at.
func TestFlowOfOneOfSeveralLinks(t *testing.T) {
	w := yardWater()
	for _, x := range []struct {
		name   string
		wanted int
	}{{"Flood", -2000}, {"Cross", 0}, {"Drain", 4000}, {"Lift", 0}} {
		q, e := water.Flow(yard(), w, x.name)
		want(t, x.name, []any{q, e}, []any{x.wanted, api.OK})
	}
	w.Open = []bool{false, true, false, true}
	for _, x := range []struct {
		name   string
		wanted int
	}{{"Flood", 0}, {"Cross", -7 * (400 - 277)}, {"Drain", 0}, {"Lift", 2500}} {
		q, e := water.Flow(yard(), w, x.name)
		want(t, x.name, []any{q, e}, []any{x.wanted, api.OK})
	}
}

// secondFlow tries all litres in the words of the chapter.
func secondFlow(n api.Network, w api.Water, i int) int {
	l := n.Links[i]
	if !w.Open[i] {
		return 0
	}
	from, to := secondSide(n, w, l.From), secondSide(n, w, l.To)
	if l.Kind == api.Pump {
		if to.level(0)-from.level(0) > l.Lift {
			return 0
		}
		q := 0
		for q < l.Rate && (from.sea || q < from.litres) && (to.sea || q < to.full-to.litres) {
			q++
		}
		return q
	}
	upper, lower, sign := from, to, 1
	if to.level(0) > from.level(0) {
		upper, lower, sign = to, from, -1
	}
	if upper.level(0) == lower.level(0) || upper.level(0) <= l.Sill {
		return 0
	}
	head := upper.level(0) - max(l.Sill, lower.level(0))
	most := 0
	for q := range min(l.Rate, l.Factor*head) + 1 {
		if !upper.sea && upper.litres-q < upper.below(l.Sill) || !lower.sea && lower.litres+q > lower.full {
			continue
		}
		if upper.level(-q) >= lower.level(q) {
			most = q
		}
	}
	return sign * most
}

// A second side answers by counting.
type second struct {
	sea          bool
	basin        api.Basin
	litres, full int
	tide         int
}

func secondSide(n api.Network, w api.Water, name string) second {
	for i, b := range n.Basins {
		if b.Name == name {
			return second{basin: b, litres: w.Litres[i], full: secondVolume(b, b.Rim)}
		}
	}
	return second{sea: true, tide: secondTide(n.Sea, w.Minute)}
}

func (s second) level(more int) int {
	if s.sea {
		return s.tide
	}
	return secondLevel(s.basin, s.litres+more)
}

func (s second) below(level int) int { return secondVolume(s.basin, level) }

// randomNetwork is so small that all litres can be tried.
func randomNetwork(r *rand.Rand) api.Network {
	n := api.Network{Sea: randomSea(r)}
	names := []string{""}
	for i := range between(r, 1, 3) {
		names = append(names, string(rune('A'+i)))
		n.Basins = append(n.Basins, randomBasin(r, names[i+1]))
	}
	for i := range between(r, 1, 5) {
		from := r.Intn(len(names))
		to := (from + between(r, 1, len(names)-1)) % len(names)
		n.Links = append(n.Links, api.Link{
			Name: string(rune('k' + i)), Kind: r.Intn(2), From: names[from], To: names[to],
			Sill: between(r, -7, 7), Rate: r.Intn(30), Factor: r.Intn(8), Lift: r.Intn(6),
		})
	}
	return n
}

func randomWater(r *rand.Rand, n api.Network) api.Water {
	w := api.Water{Minute: r.Intn(30)}
	for _, b := range n.Basins {
		w.Litres = append(w.Litres, r.Intn(secondVolume(b, b.Rim)+1))
	}
	for range n.Links {
		w.Open = append(w.Open, r.Intn(4) > 0)
	}
	return w
}

func TestFlowBySecondOpinion(t *testing.T) {
	r := rand.New(rand.NewSource(55))
	signs := map[int]int{}
	for range 3000 {
		n := randomNetwork(r)
		w := randomWater(r, n)
		for i, l := range n.Links {
			q, e := water.Flow(n, w, l.Name)
			want(t, "the flow", []any{q, e}, []any{secondFlow(n, w, i), api.OK})
			signs[max(-1, min(1, q))]++
		}
	}
	if signs[-1] < 500 || signs[0] < 500 || signs[1] < 500 {
		t.Errorf("only %v", signs)
	}
}
