package hull_test

import (
	"fmt"
	"math/rand"
	"strings"
	"testing"

	"keelblock/api"
	"keelblock/hull"
)

// P2.2

const tugText = `ship Tug-2 20001
station -500 1001 100 1000 1000 1500 2500
station 501 1001 0 2000 700 0 900 2300 3000
station 12000 8000 50 2500 3100
light Light 90000 9000 1700 7
item Oil 1500 -500 300 11
item Crane 2001 14000 -20 0
item Mark 0 20001 5000 0
item Fuel 3000 14000 900 5
`

const bargeText = `ship Barge 20000
station 10000 20000 0 4000 3000
light Light 320000 10000 2000 0
`

func TestText(t *testing.T) {
	for _, x := range []struct {
		ship api.Ship
		text string
	}{{tug(), tugText}, {barge(), bargeText}} {
		text, e := hull.Print(x.ship)
		want(t, "Print", []any{text, e}, []any{x.text, api.OK})
		s, line, e := hull.Parse(x.text)
		want(t, "Parse", []any{s, line, e}, []any{x.ship, 0, api.OK})
	}
}

func TestTextOfTheGreatestShip(t *testing.T) {
	s := api.Ship{Name: "Q12345678901", Length: 1000000}
	for i := range 40 {
		station := api.Station{X: 900000 + 100*i, Width: 100}
		for k := range 30 {
			station.Levels = append(station.Levels, 99000+k)
		}
		for range 29 {
			station.Halves = append(station.Halves, 100000)
		}
		s.Stations = append(s.Stations, station)
	}
	s.Light = api.Load{Name: "L", Mass: 1000000000, X: -1000000, Z: -100000, Free: 1000000000}
	for i := range 60 {
		s.Items = append(s.Items, api.Load{Name: fmt.Sprintf("Item-%07d", i), Mass: 1000000000, X: -1000000, Z: -100000, Free: 1000000000})
	}
	text, e := hull.Print(s)
	want(t, "the error of Print", e, api.OK)
	back, line, e := hull.Parse(text)
	want(t, "Parse", []any{back, line, e}, []any{s, 0, api.OK})
}

// replaced is the text of the tug with something else in it.
func replaced(old, new string) string {
	if strings.Count(tugText, old) != 1 {
		panic("not once in the text: " + old)
	}
	return strings.Replace(tugText, old, new, 1)
}

func wantLine(t *testing.T, text string, line int, wanted api.Errno) {
	t.Helper()
	s, got, e := hull.Parse(text)
	if len(text) > 200 {
		text = text[:200] + ".."
	}
	wantError(t, fmt.Sprintf("Parse of %q", text), wanted, e)
	want(t, fmt.Sprintf("the line of %q", text), got, line)
	want(t, fmt.Sprintf("the ship of %q", text), s, api.Ship{})
}

func TestLinesOutOfForm(t *testing.T) {
	for _, x := range []struct {
		old, new string
		line     int
	}{
		{"ship Tug-2", "Ship Tug-2", 1},
		{"ship Tug-2", "light Tug-2", 1},
		{"ship Tug-2", "shipTug-2", 1},
		{"ship Tug-2", "ship", 1},
		{"ship Tug-2 20001", "ship  20001", 1},
		{"ship Tug-2 20001", "ship Tug-2", 1},
		{"ship Tug-2 20001", "ship Tug-2 ", 1},
		{"ship Tug-2 20001", "ship Tug-2 20001 ", 1},
		{"ship Tug-2 20001", " ship Tug-2 20001", 1},
		{"ship Tug-2 20001", "ship Tug-2 20001 5", 1},
		{"ship Tug-2 20001", "ship  Tug-2 20001", 1},
		{"ship Tug-2 20001", "ship Tug 2 20001", 1},
		{"ship Tug-2 20001\n", "", 1},
		{"ship Tug-2 20001", "", 1},
		{"ship Tug-2 20001\n", "ship Tug-2 20001\n\n", 2},
		{"ship Tug-2 20001\n", "ship Tug-2 20001\nship Tug-2 20001\n", 2},
		{"station -500 1001", "stations -500 1001", 2},
		{"station -500 1001", "item -500 1001", 2},
		{"station -500 1001 100 1000 1000 1500 2500", "station -500 1001 100 1000 1000 1500", 2},
		{"station -500 1001 100 1000 1000 1500 2500", "station -500 1001 100 1000", 2},
		{"station -500 1001 100 1000 1000 1500 2500", "station -500 1001", 2},
		{"station -500 1001 100 1000 1000 1500 2500", "station -500", 2},
		{"station -500 1001 100 1000 1000 1500 2500", "station", 2},
		{"station -500 1001 100", "station -500 1001 100 ", 2},
		{"station -500 1001 100", "station  -500 1001 100", 2},
		{"station -500 1001 100", "station x 1001 100", 2},
		{"station -500 1001 100", "station -500 x 100", 2},
		{"station -500 1001 100", "station -500 1001 x", 2},
		{"station -500 1001 100 1000 1000", "station -500 1001 100 x 1000", 2},
		{"1500 2500\n", "1500 2500 \n", 2},
		{"station 12000", "ship 12000", 4},
		{"light Light 90000", "item Light 90000", 5},
		{"light Light 90000", "station Light 90000", 5},
		{"light Light 90000", "light  90000", 5},
		{"light Light 90000", "light Light", 5},
		{"light Light 90000 9000 1700 7", "light Light 90000 9000 1700", 5},
		{"light Light 90000 9000 1700 7", "light Light 90000 9000 1700 7 8", 5},
		{"light Light 90000 9000 1700 7", "light", 5},
		{"item Oil 1500 -500 300 11", "light Oil 1500 -500 300 11", 6},
		{"item Oil 1500 -500 300 11", "station 30000 1 1 2 3", 6},
		{"item Oil 1500 -500 300 11", "item Oil x -500 300 11", 6},
		{"item Oil 1500 -500 300 11", "item Oil 1500 x 300 11", 6},
		{"item Oil 1500 -500 300 11", "item Oil 1500 -500 x 11", 6},
		{"item Oil 1500 -500 300 11", "item Oil 1500 -500 300 x", 6},
		{"item Oil 1500 -500 300 11", "", 6},
		{"item Oil 1500 -500 300 11", "Item Oil 1500 -500 300 11", 6},
		{"item Fuel", "item", 9},
	} {
		wantLine(t, replaced(x.old, x.new), x.line, api.ErrSyntax)
	}
	wantLine(t, tugText+"\n", 10, api.ErrSyntax)
	wantLine(t, tugText+"item A 1 1 1 1\nitem B 1 1 1\n", 11, api.ErrSyntax)
	wantLine(t, strings.ReplaceAll(tugText, "\n", "\r\n"), 1, api.ErrSyntax)
	wantLine(t, replaced("station -500", "station x")+"no line feed", 2, api.ErrSyntax)
}

func TestLinesThatAreMissing(t *testing.T) {
	wantLine(t, "", 1, api.ErrSyntax)
	wantLine(t, "\n", 1, api.ErrSyntax)
	wantLine(t, "ship A 1", 1, api.ErrSyntax)
	wantLine(t, "ship A 1\n", 2, api.ErrSyntax)
	wantLine(t, "ship A 1\nstation 1 2 0 1 5", 2, api.ErrSyntax)
	wantLine(t, "ship A 1\nstation 1 2 0 1 5\n", 3, api.ErrSyntax)
	wantLine(t, "ship A 1\nstation 1 2 0 1 5\nlight L 1 1 1 0", 3, api.ErrSyntax)
	wantLine(t, "ship A 1\nstation 1 2 0 1 5\nlight L 1 1 1 0\nitem M 1 1 1 0", 4, api.ErrSyntax)
	wantLine(t, strings.TrimSuffix(tugText, "\n"), 9, api.ErrSyntax)
	wantLine(t, tugText+"item A 1 1 1 1", 10, api.ErrSyntax)
	wantLine(t, tugText+" ", 10, api.ErrSyntax)
}

// Every number of a text is of the form that Print writes.
func TestNumbersOfTexts(t *testing.T) {
	for _, word := range []string{
		"", "-", "+", "+1", "01", "00", "-0", "-01", "--1", "1-", "1.0", "1e3", "0x1", "1_0", "1,0", "\t1", "1\t", "1\x00", "١",
		"10000000000", "-10000000000", "00000000001", "99999999999999999999", "-99999999999999999999", strings.Repeat("1", 5000),
	} {
		wantLine(t, replaced("20001\nstation", word+"\nstation"), 1, api.ErrSyntax)
		wantLine(t, replaced("2500\n", word+"\n"), 2, api.ErrSyntax)
		wantLine(t, replaced("90000 9000", "90000 "+word), 5, api.ErrSyntax)
		wantLine(t, replaced("-500 300", word+" 300"), 6, api.ErrSyntax)
	}
	// numbers of ten digits have the form, but are out of range
	for _, word := range []string{"9999999999", "-9999999999", "1000000001"} {
		wantLine(t, replaced("20001\nstation", word+"\nstation"), 0, api.ErrRange)
		wantLine(t, replaced("-500 300", word+" 300"), 0, api.ErrRange)
	}
}

func TestTextsOfBadShips(t *testing.T) {
	wantLine(t, replaced("Tug-2", "2-Tug"), 0, api.ErrName)
	wantLine(t, replaced("Tug-2", "T\tg"), 0, api.ErrName)
	wantLine(t, replaced("Tug-2", "A123456789012"), 0, api.ErrName)
	wantLine(t, replaced("20001\nstation", "0\nstation"), 0, api.ErrRange)
	wantLine(t, "ship A 1\nlight L 1 1 1 0\n", 0, api.ErrRange)
	wantLine(t, replaced("station -500 1001 100 1000 1000 1500 2500", "station -500 1001 100"), 0, api.ErrShape)
	wantLine(t, replaced("station -500", "station 501"), 0, api.ErrOrder)
	wantLine(t, replaced("station 501 1001", "station 501 1002"), 0, api.ErrClash)
	wantLine(t, replaced("item Oil", "item Light"), 0, api.ErrExists)
	wantLine(t, replaced("item Oil 1500", "item Oil -1500"), 0, api.ErrRange)
	more := ""
	for i := range 57 {
		more += fmt.Sprintf("item I%d 1 1 1 1\n", i)
	}
	wantLine(t, tugText+more, 0, api.ErrLarge)
	many := "ship A 1\n"
	for i := range 41 {
		many += fmt.Sprintf("station %d 1 0 1 5\n", i)
	}
	wantLine(t, many+"light L 1 1 1 0\n", 0, api.ErrRange)
	wantLine(t, many, 43, api.ErrSyntax)
	// the form of all lines comes before the errors of the ship
	wantLine(t, replaced("Tug-2", "2-Tug")+"\n", 10, api.ErrSyntax)
}

func TestLongTexts(t *testing.T) {
	long := strings.Repeat("x", 60000-len(tugText)+len("Tug-2"))
	wantLine(t, replaced("Tug-2", long), 0, api.ErrName)
	wantLine(t, replaced("Tug-2", long+"x"), 0, api.ErrLarge)
	wantLine(t, strings.Repeat("x", 60000), 1, api.ErrSyntax)
	wantLine(t, strings.Repeat("x", 60001), 0, api.ErrLarge)
	wantLine(t, strings.Repeat(" ", 60000), 1, api.ErrSyntax)
	wantLine(t, strings.Repeat("\n", 60000), 1, api.ErrSyntax)
	wantLine(t, strings.Repeat("\n", 1<<20), 0, api.ErrLarge)
}

// Each text is either that of a ship, or refused: nothing else is read.
func TestTextsWithAChange(t *testing.T) {
	r := rand.New(rand.NewSource(21))
	bytes := "0123456789- \nshipA\x00\xff"
	for range 20000 {
		text := []byte(tugText)
		for range 1 + r.Intn(2) {
			i := r.Intn(len(text))
			if r.Intn(2) == 0 {
				text = append(text[:i], text[i+1:]...)
			} else {
				text[i] = bytes[r.Intn(len(bytes))]
			}
		}
		s, line, e := hull.Parse(string(text))
		if e == api.OK {
			back, f := hull.Print(s)
			want(t, "Print of what was read", []any{back, f, line}, []any{string(text), api.OK, 0})
			continue
		}
		want(t, "the ship beside an error", s, api.Ship{})
		want(t, "a line only beside ErrSyntax", line > 0, e == api.ErrSyntax)
	}
}
