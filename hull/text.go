package hull

import (
	"iter"
	"strconv"
	"strings"

	"keelblock/api"
)

const (
	textBytes  = 60000
	mostDigits = 10
)

// Print writes a ship.
func Print(s api.Ship) (string, api.Errno) {
	if e := Check(s); e != api.OK {
		return "", e
	}
	text := line("ship", s.Name, s.Length)
	for _, t := range s.Stations {
		text += stationLine(t)
	}
	text += loadLine("light", s.Light)
	for _, l := range s.Items {
		text += loadLine("item", l)
	}
	return text, api.OK
}

func loadLine(word string, l api.Load) string {
	return line(word, l.Name, l.Mass, l.X, l.Z, l.Free)
}

func stationLine(t api.Station) string {
	numbers := []int{t.Width}
	for k, h := range t.Halves {
		numbers = append(numbers, t.Levels[k], h)
	}
	numbers = append(numbers, t.Levels[len(t.Levels)-1])
	return line("station", strconv.Itoa(t.X), numbers...)
}

func line(first, second string, numbers ...int) string {
	words := []string{first, second}
	for _, n := range numbers {
		words = append(words, strconv.Itoa(n))
	}
	return strings.Join(words, " ") + "\n"
}

// Parse reads what Print writes.
func Parse(text string) (api.Ship, int, api.Errno) {
	if len(text) > textBytes {
		return api.Ship{}, 0, api.ErrLarge
	}
	s, bad := read(text)
	if bad > 0 {
		return api.Ship{}, bad, api.ErrSyntax
	}
	if e := Check(s); e != api.OK {
		return api.Ship{}, 0, e
	}
	return s, 0, api.OK
}

// A badLine is a panic: the number of a line that can not follow the lines before it.
type badLine int

// read returns the ship, or the number of the line that can not follow.
func read(text string) (s api.Ship, bad int) {
	defer func() {
		switch p := recover().(type) {
		case nil:
		case badLine:
			s, bad = api.Ship{}, int(p)
		default:
			// a fault of the program shall not look like one of the text
			panic(p)
		}
	}()
	last, light := 0, false
	for r := range rows(text) {
		switch {
		case r.number == 1:
			s.Name, s.Length = r.ship()
		case light:
			s.Items = append(s.Items, r.load("item"))
		case r.words[0] == "light":
			s.Light, light = r.load("light"), true
		default:
			s.Stations = append(s.Stations, r.station())
		}
		last = r.number
	}
	if !light {
		panic(badLine(last + 1))
	}
	return s, 0
}

// A row is a line with its number, from 1 on, as words, of which there is at least one, perhaps
// an empty one. Its methods panic if it has not their form.
type row struct {
	number int
	words  []string
}

// rows goes through the lines of a text.
func rows(text string) iter.Seq[row] {
	return func(yield func(row) bool) {
		rest := text
		for number := 1; rest != ""; number++ {
			first, behind, ended := strings.Cut(rest, "\n")
			r := row{number, strings.Split(first, " ")}
			r.demand(ended)
			if !yield(r) {
				return
			}
			rest = behind
		}
	}
}

// demand refuses the line if it is not as it must be.
func (r row) demand(is bool) {
	if !is {
		panic(badLine(r.number))
	}
}

func (r row) ship() (name string, length int) {
	r.begin("ship", 3)
	return r.name(1), r.integer(2)
}

func (r row) load(word string) api.Load {
	r.begin(word, 6)
	return api.Load{Name: r.name(1), Mass: r.integer(2), X: r.integer(3), Z: r.integer(4), Free: r.integer(5)}
}

func (r row) station() api.Station {
	// behind three words there is one level more than half breadths
	count := len(r.words)
	r.demand(r.words[0] == "station" && count >= 4 && count%2 == 0)
	t := api.Station{X: r.integer(1), Width: r.integer(2)}
	for i := 3; i < len(r.words); i++ {
		if i%2 == 1 {
			t.Levels = append(t.Levels, r.integer(i))
		} else {
			t.Halves = append(t.Halves, r.integer(i))
		}
	}
	return t
}

// begin demands the first word and the count of all.
func (r row) begin(word string, count int) {
	r.demand(r.words[0] == word && len(r.words) == count)
}

func (r row) name(i int) string {
	r.demand(r.words[i] != "")
	return r.words[i]
}

func (r row) integer(i int) int {
	word := r.words[i]
	n, err := strconv.Atoi(word)
	// what Print would write otherwise is no number: "+1", "01", "-0"
	r.demand(err == nil && strconv.Itoa(n) == word && len(strings.TrimPrefix(word, "-")) <= mostDigits)
	return n
}
