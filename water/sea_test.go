package water_test

import (
	"math"
	"math/big"
	"math/rand"
	"testing"

	"keelblock/api"
	"keelblock/water"
)

// P5.2

// marks are minutes and levels by turns.
func marks(l ...int) []api.Mark {
	var out []api.Mark
	for i := 0; i < len(l); i += 2 {
		out = append(out, api.Mark{Minute: l[i], Level: l[i+1]})
	}
	return out
}

// manyMarks are so many, one a minute.
func manyMarks(n int) []api.Mark {
	var out []api.Mark
	for i := range n {
		out = append(out, api.Mark{Minute: i, Level: i % 7})
	}
	return out
}

type seaCase struct {
	what string
	m    []api.Mark
	e    api.Errno
}

func seas() []seaCase {
	return []seaCase{
		{"no marks", nil, api.OK},
		{"one mark", marks(0, 0), api.OK},
		{"400 marks", manyMarks(400), api.OK},
		{"401 marks", manyMarks(401), api.ErrLarge},
		{"too many before a wrong one", make([]api.Mark, 401), api.ErrLarge},
		{"minute", marks(-1, 0), api.ErrRange},
		{"minute", marks(1000000, 0), api.OK},
		{"minute", marks(1000001, 0), api.ErrRange},
		{"level", marks(0, -1000001), api.ErrRange},
		{"level", marks(0, -1000000), api.OK},
		{"level", marks(0, 1000000), api.OK},
		{"level", marks(0, 1000001), api.ErrRange},
		{"level of the second one", marks(0, 0, 1, 1000001), api.ErrRange},
		{"equal minutes", marks(5, 0, 5, 1), api.ErrOrder},
		{"falling minutes", marks(5, 0, 4, 0), api.ErrOrder},
		{"rising minutes", marks(5, 0, 6, 0), api.OK},
		{"the range before the order", marks(5, 0, 5, 1000001), api.ErrRange},
		{"the order before the range of the next one", marks(5, 0, 5, 1, -1, 0), api.ErrOrder},
		{"extreme numbers", marks(math.MinInt, math.MaxInt, math.MaxInt, math.MinInt), api.ErrRange},
	}
}

func TestCheckSea(t *testing.T) {
	for _, x := range seas() {
		want(t, x.what, water.CheckSea(x.m), x.e)
	}
}

func TestSeaErrors(t *testing.T) {
	for _, x := range seas() {
		if x.e == api.OK {
			continue
		}
		level, e := water.Tide(x.m, -1)
		wantError(t, "Tide of "+x.what, x.e, e, level)
		times, e := water.Above(x.m, 0, 1, 0)
		wantError(t, "Above of "+x.what, x.e, e, times)
		high, e := water.HighWaters(x.m)
		wantError(t, "HighWaters of "+x.what, x.e, e, high)
	}
	for _, m := range [][]api.Mark{nil, marks(5, 6)} {
		for _, minute := range []int{math.MinInt, -1, 1000001, math.MaxInt} {
			level, e := water.Tide(m, minute)
			wantError(t, "Tide at a wrong minute", api.ErrRange, e, level)
		}
		for _, x := range [][3]int{{-1000001, 0, 0}, {1000001, 0, 0}, {0, -1, 0}, {0, 1, 0}, {0, 0, 1000001}, {0, 1000001, 1000001}, {0, math.MinInt, math.MaxInt}} {
			times, e := water.Above(m, x[0], x[1], x[2])
			wantError(t, "Above with wrong numbers", api.ErrRange, e, times)
		}
	}
	level, e := water.Tide(nil, 0)
	wantError(t, "Tide without marks", api.ErrNone, e, level)
	times, e := water.Above(nil, 0, 0, 0)
	wantError(t, "Above without marks", api.ErrNone, e, times)
	high, e := water.HighWaters(nil)
	want(t, "HighWaters without marks", []any{high, e}, []any{[]api.Mark(nil), api.OK})
}

func TestTide(t *testing.T) {
	for _, x := range []struct {
		m              []api.Mark
		minute, wanted int
	}{
		{marks(0, 0, 10, 25), 0, 0}, {marks(0, 0, 10, 25), 3, 7}, {marks(0, 0, 10, 25), 4, 10}, {marks(0, 0, 10, 25), 10, 25}, {marks(0, 0, 10, 25), 11, 25},
		{marks(0, 0, 10, 25), 1000000, 25},
		{marks(0, 0, 10, -25), 3, -8}, {marks(0, 0, 10, -25), 4, -10}, {marks(0, 0, 10, -25), 9, -23},
		{marks(0, 25, 10, 0), 3, 17}, {marks(0, 25, 10, 0), 4, 15},
		{marks(0, -25, 10, 0), 3, -18}, {marks(0, -2, 3, 2), 1, -1}, {marks(0, -2, 3, 2), 2, 0},
		{marks(7, 3, 8, 4), 0, 3}, {marks(7, 3, 8, 4), 7, 3}, {marks(7, 3, 8, 4), 8, 4},
		{marks(1000000, -7), 0, -7}, {marks(1000000, -7), 1000000, -7},
		{marks(0, -1000000, 1000000, 1000000), 1, -999998}, {marks(0, 1000000, 1000000, -1000000), 999999, -999998},
		{marks(0, -1000000, 999999, 1000000), 999998, 999997},
	} {
		level, e := water.Tide(x.m, x.minute)
		want(t, "the level", []any{x.m, x.minute, level, e}, []any{x.m, x.minute, x.wanted, api.OK})
	}
}

// secondTide looks for the marks around the minute, and rounds a fraction.
func secondTide(m []api.Mark, minute int) int {
	if minute <= m[0].Minute {
		return m[0].Level
	}
	for i := 1; i < len(m); i++ {
		if minute > m[i].Minute {
			continue
		}
		part := big.NewRat(int64(minute-m[i-1].Minute), int64(m[i].Minute-m[i-1].Minute))
		level := plus(bigInt(m[i-1].Level), mul(part, bigInt(m[i].Level-m[i-1].Level)))
		// Div of math/big rounds down for positive divisors
		return int(new(big.Int).Div(level.Num(), level.Denom()).Int64())
	}
	return m[len(m)-1].Level
}

// randomSea has small levels, so that marks are often level with each other.
func randomSea(r *rand.Rand) []api.Mark {
	var m []api.Mark
	minute := r.Intn(4)
	for range between(r, 1, 8) {
		m = append(m, api.Mark{Minute: minute, Level: between(r, -4, 4)})
		minute += between(r, 1, 7)
	}
	return m
}

func TestTideBySecondOpinion(t *testing.T) {
	r := rand.New(rand.NewSource(52))
	for range 300 {
		m := randomSea(r)
		for minute := range 60 {
			level, e := water.Tide(m, minute)
			want(t, "the level", []any{level, e}, []any{secondTide(m, minute), api.OK})
		}
	}
}

func TestAbove(t *testing.T) {
	const end = 1000000
	for _, x := range []struct {
		m               []api.Mark
		level, from, to int
		wanted          [][2]int
	}{
		{marks(0, 0, 10, 25), 7, 0, 20, [][2]int{{3, 20}}},
		{marks(0, 0, 10, 25), 8, 0, 20, [][2]int{{4, 20}}},
		{marks(0, 0, 10, 25), 25, 0, 20, [][2]int{{10, 20}}},
		{marks(0, 0, 10, 25), 26, 0, 20, nil},
		{marks(0, 0, 10, 25), 0, 0, end, [][2]int{{0, end}}},
		{marks(0, 0, 10, 25), 7, 5, 5, [][2]int{{5, 5}}},
		{marks(0, 0, 10, 25), 7, 2, 2, nil},
		{marks(0, 25, 10, 0), 7, 0, 20, [][2]int{{0, 7}}},
		{marks(0, 25, 10, 0), 7, 8, 20, nil},
		{marks(0, 25, 10, 0), 7, 7, 20, [][2]int{{7, 7}}},
		{marks(0, 0, 10, 10, 20, 0), 10, 0, 20, [][2]int{{10, 10}}},
		{marks(0, 0, 10, 10, 20, 0, 30, 10), 5, 0, 40, [][2]int{{5, 15}, {25, 40}}},
		{marks(0, 0, 10, 10, 20, 0, 30, 10), 5, 15, 25, [][2]int{{15, 15}, {25, 25}}},
		{marks(0, 0, 10, 10, 20, 0, 30, 10), 5, 16, 24, nil},
		{marks(0, 10, 10, 5, 20, 10), 5, 0, 20, [][2]int{{0, 20}}},
		{marks(0, 10, 10, 4, 20, 10), 5, 0, 20, [][2]int{{0, 8}, {12, 20}}},
		// below the level between two minutes, but at none
		{marks(0, 9, 1, 5, 2, 5, 3, 9), 5, 0, 9, [][2]int{{0, 9}}},
		{marks(5, 1, 6, 0, 7, 1), 1, 0, 9, [][2]int{{0, 5}, {7, 9}}},
		{marks(7, 3), 3, 0, end, [][2]int{{0, end}}},
		{marks(7, 3), 4, 0, end, nil},
		{marks(0, 3), 3, end, end, [][2]int{{end, end}}},
		{marks(end, 3), -1000000, 0, end, [][2]int{{0, end}}},
		{marks(0, -1000000, end, 1000000), 1000000, 0, end, [][2]int{{end, end}}},
		{marks(0, -1000000, end, 1000000), 999999, 0, end, [][2]int{{end, end}}},
		{marks(0, -1000000, end, 1000000), 999998, 0, end, [][2]int{{999999, end}}},
		{marks(0, 1000000, end, -1000000), -999999, 0, end, [][2]int{{0, 999999}}},
	} {
		times, e := water.Above(x.m, x.level, x.from, x.to)
		want(t, "the times", []any{x.m, x.level, times, e}, []any{x.m, x.level, x.wanted, api.OK})
	}
}

// secondAbove asks for the tide minute by minute.
func secondAbove(m []api.Mark, level, from, to int) [][2]int {
	var out [][2]int
	for minute := from; minute <= to; minute++ {
		if secondTide(m, minute) < level {
			continue
		}
		if n := len(out); n > 0 && out[n-1][1] == minute-1 {
			out[n-1][1] = minute
		} else {
			out = append(out, [2]int{minute, minute})
		}
	}
	return out
}

func TestAboveBySecondOpinion(t *testing.T) {
	r := rand.New(rand.NewSource(53))
	several := 0
	for range 3000 {
		m, level, from := randomSea(r), between(r, -5, 5), r.Intn(20)
		to := from + r.Intn(50)
		times, e := water.Above(m, level, from, to)
		want(t, "the times", []any{m, level, from, to, times, e}, []any{m, level, from, to, secondAbove(m, level, from, to), api.OK})
		if len(times) > 1 {
			several++
		}
	}
	if several < 150 {
		t.Errorf("only %d times with several intervals", several)
	}
}

func TestHighWaters(t *testing.T) {
	for _, x := range []struct {
		m, wanted []api.Mark
	}{
		{marks(0, 0, 10, 25), marks(10, 25)},
		{marks(0, 25, 10, 0), marks(0, 25)},
		{marks(3, 4), marks(3, 4)},
		{marks(3, 4, 5, 4, 6, 4), marks(3, 4)},
		{marks(0, 0, 10, 25, 20, 25, 30, 0), marks(10, 25)},
		{marks(0, 0, 10, 25, 20, 25, 30, 26), marks(30, 26)},
		{marks(0, 5, 10, 5, 20, 4), marks(0, 5)},
		{marks(0, 5, 10, 5, 20, 6), marks(20, 6)},
		{marks(0, 0, 1, 2, 2, 1, 3, 3, 4, 3, 5, 2, 6, 2), marks(1, 2, 3, 3)},
		{marks(0, 3, 1, 2, 2, 2, 3, 3), marks(0, 3, 3, 3)},
		{marks(0, -1000000, 1, 1000000, 1000000, -1000000), marks(1, 1000000)},
	} {
		high, e := water.HighWaters(x.m)
		want(t, "the high waters", []any{x.m, high, e}, []any{x.m, x.wanted, api.OK})
	}
}

// secondHighWaters looks to both sides of each mark, past those of its level.
func secondHighWaters(m []api.Mark) []api.Mark {
	var out []api.Mark
	for i := range m {
		behind := i + 1
		for behind < len(m) && m[behind].Level == m[i].Level {
			behind++
		}
		rises := i == 0 || m[i-1].Level < m[i].Level
		falls := behind == len(m) || m[behind].Level < m[i].Level
		if rises && falls {
			out = append(out, m[i])
		}
	}
	return out
}

func TestHighWatersBySecondOpinion(t *testing.T) {
	r := rand.New(rand.NewSource(54))
	for range 3000 {
		m := randomSea(r)
		high, e := water.HighWaters(m)
		want(t, "the high waters", []any{m, high, e}, []any{m, secondHighWaters(m), api.OK})
	}
}
