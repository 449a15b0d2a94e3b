package berth_test

import (
	"fmt"
	"math"
	"math/big"
	"math/rand"
	"testing"

	"keelblock/api"
	"keelblock/berth"
	"keelblock/exact"
)

func parts(texts ...string) api.Mooring {
	m := api.Mooring{Holds: true}
	for _, text := range texts {
		m.Parts = append(m.Parts, num(text))
	}
	return m
}

func proof(texts ...string) api.Mooring { return api.Mooring{Proof: parts(texts...).Parts} }

// opposite are the lines of the chapter's fifth example.
func opposite() []api.Line {
	return []api.Line{line("a", 0, 0, 1000, 0, 1000), line("b", 0, 0, -1000, 0, 1000)}
}

// slack are eight lines, all around a ship, with round spans and forces.
func slack() []api.Line {
	return []api.Line{
		line("a", 40000, 8000, 43000, 12000, 1000), line("b", -40000, 8000, -43000, 12000, 1000),
		line("c", 30000, 8000, 24000, 16000, 2000), line("d", -30000, 8000, -24000, 16000, 2000),
		line("e", 0, 8000, 0, 18000, 500), line("f", 0, -8000, 0, -18000, 500),
		line("g", 40000, -8000, 52000, -13000, 1300), line("h", -40000, -8000, -52000, -13000, 1300),
	}
}

type windCase struct {
	what string
	w    api.Wind
	e    api.Errno
}

func winds() []windCase {
	return []windCase{
		{"X", api.Wind{X: -1000000001}, api.ErrRange},
		{"X", api.Wind{X: -1000000000}, api.OK},
		{"X", api.Wind{X: 1000000000}, api.OK},
		{"X", api.Wind{X: 1000000001}, api.ErrRange},
		{"X", api.Wind{X: math.MinInt}, api.ErrRange},
		{"Y", api.Wind{Y: -1000000001}, api.ErrRange},
		{"Y", api.Wind{Y: -1000000000}, api.OK},
		{"Y", api.Wind{Y: 1000000000}, api.OK},
		{"Y", api.Wind{Y: 1000000001}, api.ErrRange},
		{"Y", api.Wind{Y: math.MaxInt}, api.ErrRange},
		{"Turn", api.Wind{Turn: -1000000000000001}, api.ErrRange},
		{"Turn", api.Wind{Turn: -1000000000000000}, api.OK},
		{"Turn", api.Wind{Turn: 1000000000000000}, api.OK},
		{"Turn", api.Wind{Turn: 1000000000000001}, api.ErrRange},
		{"Turn", api.Wind{Turn: math.MinInt}, api.ErrRange},
	}
}

func TestErrorsOfLinesAndWinds(t *testing.T) {
	wrong := map[string][]api.Line{
		fmt.Sprint(int(api.ErrLarge)):  make([]api.Line, 13),
		fmt.Sprint(int(api.ErrName)):   {line("a", 0, 0, 1, 1, 1), {}},
		fmt.Sprint(int(api.ErrExists)): {line("a", 0, 0, 1, 1, 1), line("a", 0, 0, 1, 1, 1)},
		fmt.Sprint(int(api.ErrRange)):  {line("a", 0, 0, 1, 1, 0)},
		fmt.Sprint(int(api.ErrZero)):   {line("a", 0, 0, 0, 0, 1)},
	}
	for code, l := range wrong {
		for _, w := range []api.Wind{{}, {X: math.MaxInt}} {
			m, e := berth.Hold(l, w)
			want(t, "the error of lines", fmt.Sprint(int(e)), code)
			wantError(t, "Hold", e, e, m)
			want(t, "the error of lines", fmt.Sprint(int(berth.CheckMooring(l, w, parts("1")))), code)
			for _, many := range [][]api.Wind{nil, once(w), make([]api.Wind, 25)} {
				n, e := berth.Worst(l, many)
				want(t, "the error of lines", fmt.Sprint(int(e)), code)
				wantError(t, "Worst", e, e, n)
			}
		}
	}
	for _, x := range winds() {
		for _, l := range [][]api.Line{nil, opposite(), slack()} {
			m, e := berth.Hold(l, x.w)
			n, other := berth.Worst(l, []api.Wind{{}, x.w, {X: math.MaxInt}})
			if x.e != api.OK {
				wantError(t, "Hold with "+x.what, x.e, e, m)
				want(t, "CheckMooring with "+x.what, berth.CheckMooring(l, x.w, api.Mooring{}), x.e)
				wantError(t, "Worst with "+x.what, x.e, other, n)
				continue
			}
			want(t, "Hold with "+x.what, []any{m.Holds, e}, []any{false, api.OK})
			want(t, "CheckMooring with "+x.what, berth.CheckMooring(l, x.w, m), api.OK)
			want(t, "CheckMooring with "+x.what, berth.CheckMooring(l, x.w, api.Mooring{}), api.ErrShape)
		}
	}
}

func TestHoldTheExample(t *testing.T) {
	m, e := berth.Hold(once(line("a", 0, 0, 3000, 4000, 1000)), api.Wind{X: -600, Y: -800})
	want(t, "example 4", []any{m, e}, []any{parts("1"), api.OK})
	m, e = berth.Hold(opposite(), api.Wind{X: 500})
	want(t, "example 5", []any{m.Holds, len(m.Parts), len(m.Proof), e}, []any{true, 2, 0, api.OK})
	want(t, "example 5", exact.SubRat(m.Parts[1], m.Parts[0]), num("1/2"))
	m, e = berth.Hold(opposite(), api.Wind{Y: 1})
	want(t, "example 5", []any{m.Holds, len(m.Parts), len(m.Proof), e}, []any{false, 0, 3, api.OK})
	want(t, "example 5", berth.CheckMooring(opposite(), api.Wind{Y: 1}, m), api.OK)
	for _, w := range []api.Wind{{X: 1}, {X: -1}, {Y: 1}, {Y: -1}, {Turn: 1}, {Turn: -1}} {
		m, e = berth.Hold(nil, w)
		want(t, "no lines", []any{m.Holds, len(m.Parts), len(m.Proof), e}, []any{false, 0, 3, api.OK})
		want(t, "no lines", berth.CheckMooring(nil, w, m), api.OK)
	}
	m, e = berth.Hold(nil, api.Wind{})
	want(t, "nothing", []any{m, e}, []any{api.Mooring{Holds: true}, api.OK})
}

func TestCheckMooring(t *testing.T) {
	aside := []api.Line{line("a", 10, 20, 3010, 4020, 1000), line("b", 10, 20, -2990, -3980, 500)}
	odd := once(line("a", 0, 0, 1, 1, 3)) // whose span is 2
	for _, x := range []struct {
		what string
		l    []api.Line
		w    api.Wind
		m    api.Mooring
		e    api.Errno
	}{
		{"example 5", opposite(), api.Wind{X: 500}, parts("0", "1/2"), api.OK},
		{"example 5, both lines", opposite(), api.Wind{X: 500}, parts("1/2", "1"), api.OK},
		{"example 5, a proof", opposite(), api.Wind{Y: 1}, proof("0", "-1", "0"), api.OK},
		{"no parts", opposite(), api.Wind{X: 500}, parts(), api.ErrShape},
		{"few parts", opposite(), api.Wind{X: 500}, parts("0"), api.ErrShape},
		{"many parts", opposite(), api.Wind{X: 500}, parts("0", "1/2", "0"), api.ErrShape},
		{"the shape before the sums", opposite(), api.Wind{X: 500}, parts("7"), api.ErrShape},
		{"a part below 0", opposite(), api.Wind{X: 500}, parts("-1/4", "1/4"), api.ErrProof},
		{"a part above 1", opposite(), api.Wind{X: 500}, parts("3/4", "5/4"), api.ErrProof},
		{"both parts at their bounds", opposite(), api.Wind{X: 1000}, parts("0", "1"), api.OK},
		{"both parts at their other bounds", opposite(), api.Wind{X: -1000}, parts("1", "0"), api.OK},
		{"too little", opposite(), api.Wind{X: 500}, parts("0", "499/1000"), api.ErrProof},
		{"too much", opposite(), api.Wind{X: 500}, parts("0", "501/1000"), api.ErrProof},
		{"the wrong line", opposite(), api.Wind{X: 500}, parts("1/2", "0"), api.ErrProof},
		{"another wind", opposite(), api.Wind{X: 500, Y: 1}, parts("0", "1/2"), api.ErrProof},
		{"a turning wind", opposite(), api.Wind{X: 500, Turn: -1}, parts("0", "1/2"), api.ErrProof},
		{"no parts of a wind that is held", nil, api.Wind{}, parts(), api.OK},
		{"no parts of a wind that is not", nil, api.Wind{X: 1}, parts(), api.ErrProof},
		{"example 4", once(line("a", 0, 0, 3000, 4000, 1000)), api.Wind{X: -600, Y: -800}, parts("1"), api.OK},
		{"its half", once(line("a", 0, 0, 3000, 4000, 1000)), api.Wind{X: -300, Y: -400}, parts("1/2"), api.OK},
		{"the moment", aside, api.Wind{X: -600, Y: -800, Turn: -10*800 + 20*600}, parts("1", "0"), api.OK},
		{"the moment of the other line", aside, api.Wind{X: 300, Y: 400, Turn: 10*400 - 20*300}, parts("0", "1"), api.OK},
		{"the moment of both", aside, api.Wind{}, parts("1/2", "1"), api.OK},
		{"no moment", aside, api.Wind{X: -600, Y: -800}, parts("1", "0"), api.ErrProof},
		{"the wrong moment", aside, api.Wind{X: -600, Y: -800, Turn: 10*800 - 20*600}, parts("1", "0"), api.ErrProof},
		{"an odd span", odd, api.Wind{X: -1, Y: -1}, parts("2/3"), api.OK},
		{"an odd span, with the distance", odd, api.Wind{X: -2, Y: -2}, parts("1"), api.ErrProof},

		{"no proof", opposite(), api.Wind{Y: 1}, proof(), api.ErrShape},
		{"a short proof", opposite(), api.Wind{Y: 1}, proof("0", "-1"), api.ErrShape},
		{"a long proof", opposite(), api.Wind{Y: 1}, proof("0", "-1", "0", "0"), api.ErrShape},
		{"parts are no proof", opposite(), api.Wind{X: 500}, api.Mooring{Parts: parts("0", "1/2").Parts}, api.ErrShape},
		{"a proof is no parts", opposite(), api.Wind{Y: 1}, api.Mooring{Holds: true, Proof: proof("0", "-1", "0").Proof}, api.ErrShape},
		{"zeros", opposite(), api.Wind{Y: 1}, proof("0", "0", "0"), api.ErrProof},
		{"the wrong sign", opposite(), api.Wind{Y: 1}, proof("0", "1", "0"), api.ErrProof},
		{"a great proof", opposite(), api.Wind{Y: 1}, proof("0", "-123456789123456789123456789", "0"), api.OK},
		{"a small proof", opposite(), api.Wind{Y: 1}, proof("0", "-1/123456789123456789123456789", "0"), api.OK},
		{"what the line makes up for", opposite(), api.Wind{X: 1000, Y: 1}, proof("-1", "0", "0"), api.ErrProof},
		{"what it just does not", opposite(), api.Wind{X: 1001}, proof("-1", "0", "0"), api.OK},
		{"what both do not", opposite(), api.Wind{X: 1001}, proof("1", "0", "0"), api.ErrProof},
		{"the other line", opposite(), api.Wind{X: -1001}, proof("1", "0", "0"), api.OK},
		{"just enough", opposite(), api.Wind{X: 1000, Y: 1}, proof("-1", "-1/1000000", "0"), api.OK},
		{"of a turning wind", opposite(), api.Wind{Turn: 1}, proof("0", "0", "-1/7"), api.OK},
		{"of a turning wind, the other way", opposite(), api.Wind{Turn: -1}, proof("0", "0", "5"), api.OK},
		{"of a turning wind, the wrong way", opposite(), api.Wind{Turn: 1}, proof("0", "0", "5"), api.ErrProof},
		{"the moment of a line", aside, api.Wind{Turn: 4001}, proof("0", "0", "-1"), api.OK},
		{"the moment that a line makes up for", aside, api.Wind{Turn: 4000}, proof("0", "0", "-1"), api.ErrProof},
		{"the other moment", aside, api.Wind{Turn: -2001}, proof("0", "0", "1"), api.OK},
		{"the other moment that a line makes up for", aside, api.Wind{Turn: -2000}, proof("0", "0", "1"), api.ErrProof},
		{"no lines", nil, api.Wind{X: 1, Y: 2, Turn: 3}, proof("1", "1", "-2"), api.OK},
		{"no lines, no proof", nil, api.Wind{X: 1, Y: 2, Turn: 3}, proof("1", "1", "-1"), api.ErrProof},
		{"an odd span", odd, api.Wind{X: -2, Y: -2}, proof("1", "0", "0"), api.OK},
		{"an odd span, no proof", odd, api.Wind{X: -1, Y: -1}, proof("1", "0", "0"), api.ErrProof},
	} {
		want(t, x.what, berth.CheckMooring(x.l, x.w, x.m), x.e)
		// the other list is not looked at
		other := x.m
		if x.m.Holds {
			other.Proof = make([]api.Rat, 5)
		} else {
			other.Parts = make([]api.Rat, 5)
		}
		want(t, x.what+", and another list", berth.CheckMooring(x.l, x.w, other), x.e)
	}
}

// R9: numbers are read by their values.
func TestCheckMooringByValue(t *testing.T) {
	half := api.Rat{Num: api.Int{Neg: true, Limbs: []uint16{3, 0}}, Den: api.Int{Neg: true, Limbs: []uint16{6, 0, 0}}}
	one := api.Rat{Num: api.Int{Limbs: []uint16{1}}}
	less := api.Rat{Num: api.Int{Neg: true, Limbs: []uint16{2}}, Den: api.Int{Limbs: []uint16{2}}}
	zero := api.Rat{Num: api.Int{Neg: true, Limbs: []uint16{0}}, Den: api.Int{Neg: true}}
	for _, m := range []api.Mooring{
		{Holds: true, Parts: []api.Rat{zero, half}}, {Holds: true, Parts: []api.Rat{{}, half}}, {Holds: true, Parts: []api.Rat{half, one}},
	} {
		want(t, "the parts", berth.CheckMooring(opposite(), api.Wind{X: 500}, m), api.OK)
	}
	want(t, "the wrong parts", berth.CheckMooring(opposite(), api.Wind{X: 500}, api.Mooring{Holds: true, Parts: []api.Rat{zero, less}}), api.ErrProof)
	want(t, "the proof", berth.CheckMooring(opposite(), api.Wind{Y: 1}, api.Mooring{Proof: []api.Rat{zero, less, {}}}), api.OK)
	want(t, "no proof", berth.CheckMooring(opposite(), api.Wind{Y: 1}, api.Mooring{Proof: []api.Rat{zero, one, {}}}), api.ErrProof)
}

// A vector is two forces and a moment.
type vector [3]*big.Rat

func secondPull(l api.Line) vector {
	part := quo(bigInt(l.Most), bigInt(secondSpan(l)))
	x, y := mul(part, bigInt(l.ToX-l.X)), mul(part, bigInt(l.ToY-l.Y))
	return vector{x, y, minus(mul(bigInt(l.X), y), mul(bigInt(l.Y), x))}
}

func windVector(w api.Wind) vector { return vector{bigInt(w.X), bigInt(w.Y), bigInt(w.Turn)} }

func (v vector) dot(o vector) *big.Rat {
	return plus(mul(v[0], o[0]), mul(v[1], o[1]), mul(v[2], o[2]))
}

func (v vector) cross(o vector) vector {
	at := func(i, j int) *big.Rat { return minus(mul(v[i], o[j]), mul(v[j], o[i])) }
	return vector{at(1, 2), at(2, 0), at(0, 1)}
}

func (v vector) times(n int) vector {
	return vector{mul(v[0], bigInt(n)), mul(v[1], bigInt(n)), mul(v[2], bigInt(n))}
}

// secondProof reports whether a vector proves that the lines do not hold a wind.
func secondProof(pulls []vector, w, v vector) bool {
	total := v.dot(w)
	for _, p := range pulls {
		if along := v.dot(p); along.Sign() > 0 {
			total = plus(total, along)
		}
	}
	return total.Sign() < 0
}

// secondHolds looks for a proof among the vectors at which one can be found: those that are across
// two pulls, or axes. (What a proof must have below 0 is linear between these.)
func secondHolds(l []api.Line, w api.Wind) bool {
	all := []vector{windVector(api.Wind{X: 1}), windVector(api.Wind{Y: 1}), windVector(api.Wind{Turn: 1})}
	var pulls []vector
	for _, x := range l {
		pulls = append(pulls, secondPull(x))
	}
	all = append(all, pulls...)
	for i, a := range all {
		for _, b := range all[:i] {
			v := a.cross(b)
			if secondProof(pulls, windVector(w), v) || secondProof(pulls, windVector(w), v.times(-1)) {
				return false
			}
		}
	}
	return true
}

// wantMooring demands that a mooring is right, by math/big.
func wantMooring(t *testing.T, what string, l []api.Line, w api.Wind, m api.Mooring) {
	t.Helper()
	var pulls []vector
	for _, x := range l {
		pulls = append(pulls, secondPull(x))
	}
	if !m.Holds {
		want(t, what, []int{len(m.Parts), len(m.Proof)}, []int{0, 3})
		if !secondProof(pulls, windVector(w), vector{bigOf(m.Proof[0]), bigOf(m.Proof[1]), bigOf(m.Proof[2])}) {
			t.Error(what, "is not proved by", m.Proof)
		}
		return
	}
	want(t, what, []int{len(m.Parts), len(m.Proof)}, []int{len(l), 0})
	total := windVector(w)
	for i, p := range m.Parts {
		part := bigOf(p)
		want(t, what+": a normalized part", p, ofBig(part))
		if part.Sign() < 0 || part.Cmp(bigInt(1)) > 0 {
			t.Error(what, "has the part", part)
		}
		for k := range total {
			total[k] = plus(total[k], mul(part, pulls[i][k]))
		}
	}
	if total[0].Sign() != 0 || total[1].Sign() != 0 || total[2].Sign() != 0 {
		t.Error(what, "is left with", total)
	}
}

// randomLines are some lines of a small ship, of which many are parallel, or through one point, with
// a wind that some of them hold.
func randomLines(r *rand.Rand) ([]api.Line, api.Wind) {
	size := []int{2, 5, 100}[r.Intn(3)]
	var l []api.Line
	for i := range r.Intn(7) {
		x := line(fmt.Sprint("L", i), between(r, -size, size), between(r, -size, size), between(r, -size, size), between(r, -size, size), between(r, 1, 3*size))
		switch r.Intn(4) {
		case 0:
			x.Y, x.ToY = 0, 0
		case 1:
			x.X, x.Y = 1, 1
		}
		if x.X == x.ToX && x.Y == x.ToY {
			x.ToX++
		}
		l = append(l, x)
	}
	if r.Intn(3) == 0 {
		return l, api.Wind{X: between(r, -size, size), Y: between(r, -size, size), Turn: between(r, -size*size, size*size)}
	}
	return l, halfWind(r, l)
}

// halfWind is a wind near one that all lines hold with parts of 0, a half, or 1.
func halfWind(r *rand.Rand, l []api.Line) api.Wind {
	total := windVector(api.Wind{})
	for _, x := range l {
		n := r.Intn(3)
		for k, p := range secondPull(x) {
			total[k] = minus(total[k], quo(mul(p, bigInt(n)), bigInt(2)))
		}
	}
	whole := func(x *big.Rat) int {
		return int(new(big.Int).Quo(x.Num(), x.Denom()).Int64()) + r.Intn(2)*between(r, -1, 1)
	}
	return api.Wind{X: whole(total[0]), Y: whole(total[1]), Turn: whole(total[2])}
}

// P6.8: never are there both parts and a proof.
func TestHoldBySecondOpinion(t *testing.T) {
	r := rand.New(rand.NewSource(42))
	count := map[string]int{}
	for range 2500 {
		l, w := randomLines(r)
		m, e := berth.Hold(l, w)
		what := fmt.Sprint(l, w)
		want(t, what, []any{m.Holds, e}, []any{secondHolds(l, w), api.OK})
		wantMooring(t, what, l, w, m)
		want(t, what, berth.CheckMooring(l, w, m), api.OK)
		count[fmt.Sprint(min(len(l), 4), m.Holds)]++
	}
	for _, what := range []string{"0 true", "0 false", "1 true", "1 false", "2 true", "2 false", "3 true", "3 false", "4 true", "4 false"} {
		if count[what] < 20 {
			t.Error(count)
		}
	}
}

// Random parts and proofs are judged as math/big judges them.
func TestCheckMooringBySecondOpinion(t *testing.T) {
	r := rand.New(rand.NewSource(43))
	count := map[string]int{}
	for range 3000 {
		l, w := randomLines(r)
		var pulls []vector
		for _, x := range l {
			pulls = append(pulls, secondPull(x))
		}
		texts := []string{fmt.Sprint(between(r, -9, 9)), fmt.Sprint(between(r, -9, 9)), fmt.Sprint(between(r, -9, 9))}
		m := proof(texts...)
		right := secondProof(pulls, windVector(w), vector{bigOf(m.Proof[0]), bigOf(m.Proof[1]), bigOf(m.Proof[2])})
		if e := berth.CheckMooring(l, w, m); (e == api.OK) != right || !right && e != api.ErrProof {
			t.Error(l, w, texts, e, right)
		}
		count[fmt.Sprint("proof ", right)]++
		// the parts of another wind, which is a whole number
		held, _ := berth.Hold(l, w)
		if !held.Holds {
			continue
		}
		count["parts"]++
		w.Turn += between(r, -1, 1)
		e := berth.CheckMooring(l, w, held)
		again := berth.CheckMooring(l, api.Wind{X: w.X + 1, Y: w.Y, Turn: w.Turn}, held)
		if e == api.OK {
			count["the same wind"]++
			want(t, "another wind", again, api.ErrProof)
		}
	}
	for _, what := range []string{"proof true", "proof false", "parts", "the same wind"} {
		if count[what] < 100 {
			t.Error(count)
		}
	}
}

func TestWorst(t *testing.T) {
	for _, x := range []struct {
		what   string
		l      []api.Line
		w      []api.Wind
		wanted int
		e      api.Errno
	}{
		{"no winds", opposite(), nil, -1, api.OK},
		{"nothing", nil, nil, -1, api.OK},
		{"none too strong", opposite(), []api.Wind{{X: 1000}, {X: -1000}, {}}, -1, api.OK},
		{"the first one", opposite(), []api.Wind{{Y: 1}, {X: -1000}, {X: 1001}}, 0, api.OK},
		{"the second one", opposite(), []api.Wind{{X: 1000}, {X: -1001}, {X: 1001}}, 1, api.OK},
		{"the last one", opposite(), []api.Wind{{X: 1000}, {X: -1000}, {X: 1001}}, 2, api.OK},
		{"no lines", nil, []api.Wind{{}, {Turn: 1}}, 1, api.OK},
		{"24 winds", opposite(), make([]api.Wind, 24), -1, api.OK},
		{"25 winds", opposite(), make([]api.Wind, 25), 0, api.ErrLarge},
		{"many winds before a wrong one", opposite(), append(make([]api.Wind, 24), api.Wind{X: math.MaxInt}), 0, api.ErrLarge},
		{"a wrong wind behind one that is not held", opposite(), []api.Wind{{Y: 1}, {Turn: math.MinInt}}, 0, api.ErrRange},
	} {
		n, e := berth.Worst(x.l, x.w)
		want(t, x.what, []any{n, e}, []any{x.wanted, x.e})
	}
}

func TestWorstIsTheFirstOne(t *testing.T) {
	r := rand.New(rand.NewSource(44))
	count := map[int]int{}
	for range 300 {
		l, _ := randomLines(r)
		var w []api.Wind
		wanted := -1
		for i := range 4 {
			w = append(w, halfWind(r, l))
			if wanted < 0 && !secondHolds(l, w[i]) {
				wanted = i
			}
		}
		n, e := berth.Worst(l, w)
		want(t, fmt.Sprint(l, w), []any{n, e}, []any{wanted, api.OK})
		count[n]++
	}
	for n := -1; n < 3; n++ {
		if count[n] < 10 {
			t.Error(count)
		}
	}
}

// As many lines and winds as there may be, all over the yard, or almost at one place.
func TestTheMostLines(t *testing.T) {
	r := rand.New(rand.NewSource(45))
	for _, size := range []int{1, 1000, 1000000} {
		var l []api.Line
		for i := range 12 {
			x := line(fmt.Sprint("L", i), between(r, -size, size), between(r, -size, size), between(r, -size, size), between(r, -size, size), between(r, 1, 1000000000))
			if x.X == x.ToX && x.Y == x.ToY {
				x.ToX = 1 - x.X
			}
			l = append(l, x)
		}
		var w []api.Wind
		for range 24 {
			w = append(w, api.Wind{X: between(r, -100000000, 100000000), Y: between(r, -100000000, 100000000), Turn: between(r, -1000000000, 1000000000) * size})
		}
		for _, x := range w {
			m, e := berth.Hold(l, x)
			want(t, fmt.Sprint(l, x), []any{m.Holds, e}, []any{secondHolds(l, x), api.OK})
			wantMooring(t, fmt.Sprint(l, x), l, x, m)
		}
		_, e := berth.Worst(l, w)
		want(t, "the winds", e, api.OK)
	}
}
