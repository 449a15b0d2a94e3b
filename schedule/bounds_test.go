package schedule_test

import (
	"fmt"
	"math"
	"math/rand"
	"slices"
	"testing"

	"keelblock/api"
	"keelblock/schedule"
)

// P8.6

func wantBound(t *testing.T, what string, w api.Work, days int, trade string, chain ...string) {
	t.Helper()
	b, e := schedule.BestBound(w)
	want(t, what, []any{b, e}, []any{api.Bound{Days: days, Chain: chain, Trade: trade}, api.OK})
	want(t, "CheckBound: "+what, schedule.CheckBound(w, b), api.OK)
}

// items are work with one trade of so many people.
func items(crew int, l ...api.Item) api.Work {
	return api.Work{Items: l, Trades: []api.Trade{{Name: "w", Crew: crew}}, Last: 60}
}

func TestBestBound(t *testing.T) {
	wantBound(t, "example 1: the chain is as long as the work of the trade", work(), 2, "", "a")
	wantBound(t, "example 2", queue(), 3, "", "a", "b")
	wantBound(t, "example 3", spaces(), 2, "", "z")
	wantBound(t, "nothing", api.Work{}, 0, "")
	wantBound(t, "a trade without work", items(0, item("a", modes(3, 0))), 3, "", "a")
	wantBound(t, "a trade", items(2, item("a", modes(2, 2)), item("b", modes(1, 2))), 3, "w")
	wantBound(t, "a trade, rounded up", items(2, item("a", modes(2, 2)), item("b", modes(1, 1))), 3, "w")
	wantBound(t, "a trade whose work is not rounded up to more than the chain", items(2, item("a", modes(3, 1)), item("b", modes(3, 1))), 3, "", "a")
	wantBound(t, "the mode with the least work", items(2, item("a", modes(9, 1, 1, 2, 3, 2)), item("b", modes(4, 1, 1, 2))), 2, "w")
	wantBound(t, "the shortest modes need not be those with the least work", items(3, item("a", modes(9, 0, 2, 3)), item("b", modes(3, 3, 9, 1), "a")), 5, "", "a", "b")

	two := items(2, item("a", modes(2, 2)), item("b", modes(3, 2)), item("c", modes(3, 2)), item("d", modes(1, 2)))
	two.Trades = append(two.Trades, api.Trade{Name: "v", Crew: 9}, api.Trade{Name: "u", Crew: 2})
	two.Items[2].Trade, two.Items[3].Trade = "u", "u"
	wantBound(t, "the first trade is the best", two, 5, "w")
	two.Items[0].Trade = "u"
	wantBound(t, "the last trade is the best", two, 6, "u")
	two.Items[3].Trade = "w"
	two.Items[3].Modes = modes(2, 2)
	wantBound(t, "the first one of two trades", two, 5, "w")
}

func TestLongestChain(t *testing.T) {
	day := modes(1, 0)
	wantBound(t, "the first one of the longest items", items(1, item("c", day), item("b", modes(2, 0)), item("a", modes(2, 0))), 2, "", "b")
	wantBound(t, "the first one by its later items", items(1, item("d", day, "a"), item("c", day), item("b", day, "a", "c"), item("a", day)), 2, "", "c", "b")
	wantBound(t, "the first item first", items(1, item("a", day, "c"), item("b", day), item("c", day), item("d", day, "b")), 2, "", "b", "d")
	wantBound(t, "a longer way to the same end", items(1, item("end", modes(5, 0), "mid", "start"), item("start", modes(2, 0)), item("mid", day, "start", "start")), 8, "", "start", "mid", "end")
	// both x and y begin on the day 3 at the latest, but only y follows on a
	wantBound(t, "an item that does not follow", items(1, item("x", modes(2, 0), "b"), item("y", modes(2, 0), "a"), item("a", modes(3, 0)), item("b", modes(3, 0))), 5, "", "a", "y")
	wantBound(t, "the longest way, not the first one", items(1, item("a", day), item("b", day, "a"), item("c", modes(3, 0)), item("d", modes(2, 0), "c")), 5, "", "c", "d")
	var all []string
	for i := range 40 {
		all = append(all, fmt.Sprint("I", i))
	}
	wantBound(t, "40 items of 60 days", chain(40, 60), 2400, "", all...)
}

func TestCheckBound(t *testing.T) {
	w := queue() // a takes 2 days, b one day after it; the trade has 4 days of work for 2 people
	w.Trades = append(w.Trades, api.Trade{Name: "idle", Crew: 9})
	for _, x := range []struct {
		what string
		b    api.Bound
		e    api.Errno
	}{
		{"the chain", api.Bound{Days: 3, Chain: []string{"a", "b"}}, api.OK},
		{"fewer days", api.Bound{Days: 2, Chain: []string{"a", "b"}}, api.OK},
		{"more days", api.Bound{Days: 4, Chain: []string{"a", "b"}}, api.ErrProof},
		{"far more days", api.Bound{Days: math.MaxInt, Chain: []string{"a", "b"}}, api.ErrProof},
		{"a part", api.Bound{Days: 1, Chain: []string{"b"}}, api.OK},
		{"more days than a part", api.Bound{Days: 2, Chain: []string{"b"}}, api.ErrProof},
		{"no chain", api.Bound{}, api.OK},
		{"less than no chain", api.Bound{Days: math.MinInt}, api.OK},
		{"more than no chain", api.Bound{Days: 1}, api.ErrProof},
		{"backward", api.Bound{Days: 0, Chain: []string{"b", "a"}}, api.ErrProof},
		{"an item twice", api.Bound{Days: 1, Chain: []string{"a", "a"}}, api.ErrProof},
		{"no chain with no days", api.Bound{Days: -5, Chain: []string{"a", "b", "a"}}, api.ErrProof},
		{"no such item", api.Bound{Days: 0, Chain: []string{"a", "?"}}, api.ErrMissing},
		{"no such item behind what is no chain", api.Bound{Days: 9, Chain: []string{"b", "a", ""}}, api.ErrMissing},
		{"a trade as an item", api.Bound{Chain: []string{"w"}}, api.ErrMissing},
		{"the trade", api.Bound{Days: 2, Trade: "w"}, api.OK},
		{"more than the trade", api.Bound{Days: 3, Trade: "w"}, api.ErrProof},
		{"a trade and a chain", api.Bound{Days: 2, Trade: "w", Chain: []string{"?", "b", "a"}}, api.OK},
		{"more than the trade, beside a chain", api.Bound{Days: 3, Trade: "w", Chain: []string{"a", "b"}}, api.ErrProof},
		{"a trade without work", api.Bound{Days: 0, Trade: "idle"}, api.OK},
		{"more than a trade without work", api.Bound{Days: 1, Trade: "idle"}, api.ErrProof},
		{"no such trade", api.Bound{Days: 0, Trade: "W"}, api.ErrMissing},
		{"no such trade beside a chain", api.Bound{Days: 3, Trade: "a", Chain: []string{"a", "b"}}, api.ErrMissing},
	} {
		want(t, x.what, schedule.CheckBound(w, x.b), x.e)
	}
	want(t, "a chain of nothing", schedule.CheckBound(api.Work{}, api.Bound{}), api.OK)
	want(t, "days of nothing", schedule.CheckBound(api.Work{}, api.Bound{Days: 1}), api.ErrProof)
	want(t, "a long chain", schedule.CheckBound(chain(40, 60), api.Bound{Days: 2400, Chain: names(chain(40, 60))}), api.OK)
	want(t, "a longer chain", schedule.CheckBound(chain(40, 60), api.Bound{Days: 2401, Chain: names(chain(40, 60))}), api.ErrProof)
}

// secondBound goes through all chains, in the order in which the first ones are preferred.
func secondBound(w api.Work) api.Bound {
	var best api.Bound
	least := func(x api.Item, number func(m api.Mode) int) int {
		var all []int
		for _, m := range x.Modes {
			all = append(all, number(m))
		}
		return slices.Min(all)
	}
	var goOn func(chain []string, days int)
	goOn = func(chain []string, days int) {
		if days > best.Days {
			best = api.Bound{Days: days, Chain: slices.Clone(chain)}
		}
		for _, x := range w.Items {
			if len(chain) == 0 || slices.Contains(x.After, chain[len(chain)-1]) {
				goOn(append(chain, x.Name), days+least(x, func(m api.Mode) int { return m.Days }))
			}
		}
	}
	goOn(nil, 0)
	for _, t := range w.Trades {
		sum, days := 0, 0
		for _, x := range w.Items {
			if x.Trade == t.Name {
				sum += least(x, func(m api.Mode) int { return m.Days * m.Crew })
			}
		}
		for ; days*t.Crew < sum; days++ {
		}
		if days > best.Days {
			best = api.Bound{Days: days, Trade: t.Name}
		}
	}
	return best
}

func TestBoundsBySecondOpinion(t *testing.T) {
	r := rand.New(rand.NewSource(87))
	trades := 0
	for range 10000 {
		w := right(t, randomWork(r, 7))
		b := secondBound(w)
		wantBound(t, fmt.Sprintf("%+v", w), w, b.Days, b.Trade, b.Chain...)
		b.Days++
		want(t, "a day more", schedule.CheckBound(w, b), api.ErrProof)
		if b.Trade != "" {
			trades++
		}
	}
	if trades < 1000 || trades > 9000 {
		t.Error(trades)
	}
}
