package permit_test

import (
	"fmt"
	"math/rand"
	"strings"
	"testing"

	"keelblock/api"
	"keelblock/permit"
)

// P7.7

// texts are one of each kind.
func texts() map[string]api.Event {
	return map[string]api.Event{
		"0 tick":                     {Op: 0},
		"1 approve weld ann":         {At: 1, Op: 1, Name: "weld", Person: "ann"},
		"20 open Weld-1 B":           {At: 20, Op: 2, Name: "Weld-1", Person: "B"},
		"3 suspend w":                {At: 3, Op: 3, Name: "w"},
		"4 resume weld bob":          {At: 4, Op: 4, Name: "weld", Person: "bob"},
		"5 close abcdefghijkl":       {At: 5, Op: 5, Name: "abcdefghijkl"},
		"1000000 cancel z9":          {At: 1000000, Op: 6, Name: "z9"},
		"7 gas tank 0 1000000":       {At: 7, Op: 7, Space: "tank", Gas: 1000000},
		"7 gas tank 1000000 10":      {At: 7, Op: 7, Space: "tank", Oxygen: 1000000, Gas: 10},
		"8 enter cy hold":            {At: 8, Op: 8, Person: "cy", Space: "hold"},
		"9 leave tick":               {At: 9, Op: 9, Person: "tick"},
		"999999 alarm deck":          {At: 999999, Op: 10, Space: "deck"},
		"11 extend open ann 0":       {At: 11, Op: 11, Name: "open", Person: "ann"},
		"11 extend open ann 1000000": {At: 11, Op: 11, Name: "open", Person: "ann", To: 1000000},
	}
}

func TestTexts(t *testing.T) {
	for text, x := range texts() {
		got, e := permit.FormatEvent(x)
		want(t, text, []any{got, e}, []any{text, api.OK})
		back, e := permit.ParseEvent(text)
		want(t, text, []any{back, e}, []any{x, api.OK})
	}
}

// Which fields an event names, by the table of the chapter.
func named(op int) string {
	return []string{"", "Name Person", "Name Person", "Name", "Name Person", "Name", "Name", "Space Oxygen Gas", "Person Space", "Person", "Space", "Name Person To"}[op]
}

func TestErrorsOfTexts(t *testing.T) {
	fields := map[string]func(x *api.Event, n int){
		"At":     func(x *api.Event, n int) { x.At = n },
		"Oxygen": func(x *api.Event, n int) { x.Oxygen = n },
		"Gas":    func(x *api.Event, n int) { x.Gas = n },
		"To":     func(x *api.Event, n int) { x.To = n },
	}
	names := map[string]func(x *api.Event, s string){
		"Name":   func(x *api.Event, s string) { x.Name = s },
		"Space":  func(x *api.Event, s string) { x.Space = s },
		"Person": func(x *api.Event, s string) { x.Person = s },
	}
	for text, x := range texts() {
		errorOf := func(do func(x *api.Event)) api.Errno {
			got, e := permit.FormatEvent(changedEvent(x, do))
			if e != api.OK {
				want(t, "a text beside an error", got, "")
			} else if strings.Contains(got, "-7") {
				t.Errorf("%s becomes %s", text, got)
			}
			return e
		}
		for field, set := range fields {
			if field == "At" || strings.Contains(named(x.Op), field) {
				wantBounds(t, text+": "+field, 0, 1000000, api.ErrRange, func(n int) api.Errno {
					return errorOf(func(x *api.Event) { set(x, n) })
				})
			} else {
				want(t, text+": another field", errorOf(func(x *api.Event) { set(x, -7) }), api.OK)
			}
		}
		for field, set := range names {
			for _, name := range []string{"", "-7", "7", "a b", "abcdefghijklm", "a\n"} {
				wanted := api.OK
				if strings.Contains(named(x.Op), field) {
					wanted = api.ErrName
				}
				want(t, fmt.Sprintf("%s: %s %q", text, field, name), errorOf(func(x *api.Event) { set(x, name) }), wanted)
			}
		}
		for _, op := range []int{-1, 12, 1 << 40} {
			want(t, text+": no Op", errorOf(func(x *api.Event) { *x = api.Event{Op: op, At: -1} }), api.ErrRange)
		}
	}
}

// Of a wrong number and a wrong name, the number is told.
func TestErrorsOfNumbersComeFirst(t *testing.T) {
	for _, x := range []api.Event{
		{At: -1, Op: api.EventClose}, {At: 1000001, Op: api.EventEnter, Person: "cy"},
		{Op: api.EventGas, Oxygen: -1}, {Op: api.EventGas, Gas: 1000001}, {Op: api.EventExtend, Person: "cy", To: 1000001}, {Op: api.EventExtend, Name: "a", To: -1},
	} {
		text, e := permit.FormatEvent(x)
		wantError(t, fmt.Sprintf("%+v", x), api.ErrRange, e, text)
	}
}

func TestNoTexts(t *testing.T) {
	for _, text := range []string{
		"", " ", "0", "tick", "0 ", " tick", "0  tick", " 0 tick", "0 tick ", "0 tick x", "0 tick 0", "0 Tick", "0 tic", "0 ticks", "0\ttick", "0 tick\n", "tick 0",
		"00 tick", "+0 tick", "-0 tick", "-1 tick", "01 tick", "1000001 tick", "x tick", "0x1 tick", "1_0 tick", "1.0 tick", "1e1 tick", "９ tick",
		"99999999999999999999999999 tick", "18446744073709551616 tick", "0 0", "0 1 weld ann",
		"0 approve", "0 approve weld", "0 approve weld ", "0 approve  ann", "0 approve weld  ann", "0 approve weld ann ", "0 approve weld ann bob", "0 approve 1 ann", "0 approve weld 1",
		"0 approve abcdefghijklm ann", "0 open weld", "0 resume weld", "0 suspend", "0 suspend weld ann", "0 close weld ann", "0 cancel ", "0 cancel weld ann",
		"0 gas", "0 gas tank", "0 gas tank 209", "0 gas tank 209 ", "0 gas tank 209 8 ", "0 gas tank 209 8 0", "0 gas tank 0209 8", "0 gas tank 209 08", "0 gas tank +209 8", "0 gas tank 209 -8",
		"0 gas tank x 8", "0 gas tank 209 x", "0 gas tank 1000001 8", "0 gas tank 209 1000001", "0 gas 5 209 8", "0 gas tank  209 8", "0 gas 209 8 tank",
		"0 enter cy", "0 enter cy 1", "0 enter 1 tank", "0 enter cy tank now", "0 leave", "0 leave cy tank", "0 leave c.y", "0 alarm", "0 alarm tank hold", "0 alarm t\xffk",
		"0 extend weld ann", "0 extend weld ann x", "0 extend weld ann -1", "0 extend weld ann 1000001", "0 extend weld ann 07", "0 extend weld 700 ann", "0 extend weld ann 700 0", "0 extend weld ann 700 ",
		strings.Repeat(" ", 100000), strings.Repeat("9", 100000) + " tick", "0 tick" + strings.Repeat(" x", 100000),
	} {
		x, e := permit.ParseEvent(text)
		wantError(t, fmt.Sprintf("%.60q", text), api.ErrSyntax, e, x)
	}
}

// A text is accepted exactly if it is that of the event.
func TestRandomTexts(t *testing.T) {
	r := rand.New(rand.NewSource(77))
	count := map[bool]int{}
	parts := strings.Fields("0 5 07 209 1000000 1000001 weld ann tank abcdefghijklm 1a tick approve open suspend resume close cancel gas enter leave alarm extend")
	for range 60000 {
		words := []string{parts[r.Intn(3)], parts[11+r.Intn(len(parts)-11)]}
		for range r.Intn(5) {
			words = append(words, parts[r.Intn(11)])
		}
		text := strings.Join(words, " ")
		x, e := permit.ParseEvent(text)
		right := words[0] != "07" && isText(words[1], words[2:])
		if (e == api.OK) != right {
			t.Fatalf("%q: error %d", text, e)
		}
		count[right]++
		if e == api.OK {
			back, e := permit.FormatEvent(x)
			want(t, text, []any{back, e}, []any{text, api.OK})
		} else {
			wantError(t, text, api.ErrSyntax, e, x)
		}
	}
	if count[true] < 1000 || count[false] < 1000 {
		t.Error(count)
	}
}

// isText reports whether words are the fields of an event, by the table of the chapter.
func isText(word string, words []string) bool {
	op := map[string]int{"approve": 1, "open": 2, "suspend": 3, "resume": 4, "close": 5, "cancel": 6, "gas": 7, "enter": 8, "leave": 9, "alarm": 10, "extend": 11}[word]
	fields := strings.Fields(named(op))
	if len(fields) != len(words) {
		return false
	}
	for i, field := range fields {
		number := field == "Oxygen" || field == "Gas" || field == "To"
		kinds := map[string]bool{"0": true, "5": true, "209": true, "1000000": true, "weld": false, "ann": false, "tank": false}
		is, right := kinds[words[i]]
		if !right || is != number {
			return false
		}
	}
	return true
}
