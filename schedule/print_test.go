package schedule_test

import (
	"fmt"
	"math/rand"
	"slices"
	"testing"

	"keelblock/api"
	"keelblock/schedule"
)

// P8.9

func wantAsks(t *testing.T, what string, w api.Work, s []api.Slot, wanted ...api.Ask) {
	t.Helper()
	l, e := schedule.Asks(w, s)
	want(t, what, []any{l, e}, []any{wanted, api.OK})
}

func wantText(t *testing.T, what string, w api.Work, s []api.Slot, wanted string) {
	t.Helper()
	text, e := schedule.PrintPlan(w, s)
	want(t, what, []any{text, e}, []any{wanted, api.OK})
}

func TestAsks(t *testing.T) {
	x, y := api.Ask{Item: "x", Space: "tank", Kind: 0, From: 4, To: 5}, api.Ask{Item: "y", Space: "hold", Kind: 2, From: 1, To: 4}
	wantAsks(t, "y first", spaces(), []api.Slot{slot("x", 0, 4), slot("y", 1, 1), slot("z", 0, 2)}, y, x)
	x.From, x.To = 0, 1
	wantAsks(t, "x first", spaces(), []api.Slot{slot("z", 0, 2), slot("y", 1, 1), slot("x", 0, 0)}, x, y)
	wantAsks(t, "no kinds", work(), days(work(), 0, 2))
	wantAsks(t, "nothing", api.Work{}, nil)
	w := changed(spaces(), func(w *api.Work) {
		w.Exclusions = nil
		w.Items[0].Kind, w.Items[2].Kind, w.Items[2].Space = 5, 1, "deck"
	})
	wantAsks(t, "on one day, in the order of the work", w, []api.Slot{slot("z", 0, 2), slot("y", 0, 2), slot("x", 0, 2)},
		api.Ask{Item: "x", Space: "tank", Kind: 5, From: 2, To: 3}, api.Ask{Item: "y", Space: "hold", Kind: 2, From: 2, To: 3}, api.Ask{Item: "z", Space: "deck", Kind: 1, From: 2, To: 4})
	w.Items[0].Kind = -1
	wantAsks(t, "a space without a kind", w, []api.Slot{slot("z", 0, 6), slot("y", 0, 2), slot("x", 0, 2)},
		api.Ask{Item: "y", Space: "hold", Kind: 2, From: 2, To: 3}, api.Ask{Item: "z", Space: "deck", Kind: 1, From: 6, To: 8})
	l, e := schedule.Asks(spaces(), days(spaces(), 3, 3, 1))
	wantError(t, "two breaches", api.ErrClash, e, l)
}

func TestPrintPlan(t *testing.T) {
	wantText(t, "example 1", work(), days(work(), 0, 2), "a 0-1 1\nb 2-2 2\n")
	wantText(t, "b first", work(), days(work(), 1, 0), "b 0-0 2\na 1-2 1\n")
	wantText(t, "breaches", work(), []api.Slot{slot("b", 0, 0), slot("a", 0, 0)}, "a 0-1 1\nb 0-0 2\n")
	wantText(t, "the last days", work(), days(work(), 400, 399), "b 399-399 2\na 400-401 1\n")
	wantText(t, "modes", spaces(), []api.Slot{slot("z", 0, 5), slot("x", 0, 12), slot("y", 1, 5)}, "y 5-7 0\nz 5-6 0\nx 12-12 1\n")
	wantText(t, "nothing", api.Work{}, nil, "")
	text, e := schedule.PrintPlan(work(), days(work(), 0, 401))
	wantError(t, "a day", api.ErrRange, e, text)
}

func TestTextsBySecondOpinion(t *testing.T) {
	r := rand.New(rand.NewSource(89))
	for range 3000 {
		w := right(t, randomWork(r, 7))
		s := randomSlots(r, w)
		var asks []api.Ask
		text := ""
		for day := range w.Last {
			for _, x := range w.Items {
				at, _ := secondSlot(s, x.Name)
				if at.Day != day {
					continue
				}
				last := slices.Max(secondDays(w, at))
				text += fmt.Sprintf("%s %d-%d %d\n", x.Name, day, last, x.Modes[at.Mode].Crew)
				if x.Kind >= 0 {
					asks = append(asks, api.Ask{Item: x.Name, Space: x.Space, Kind: x.Kind, From: day, To: last + 1})
				}
			}
		}
		wantText(t, fmt.Sprintf("%+v: %v", w, s), w, s, text)
		if b := secondBreaches(w, s); len(b) == 0 {
			wantAsks(t, fmt.Sprintf("%+v: %v", w, s), w, s, asks...)
		} else {
			l, e := schedule.Asks(w, s)
			wantError(t, fmt.Sprintf("%+v: %v", w, s), b[0].Reason, e, l)
		}
	}
}
