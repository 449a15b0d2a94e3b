package water

import (
	"math"

	"keelblock/api"
)

// Flow returns what a link does in the minute of a state.
func Flow(n api.Network, w api.Water, link string) (int, api.Errno) {
	if e := waterError(n, w); e != api.OK {
		return 0, e
	}
	i := findLink(n, link)
	if i < 0 {
		return 0, api.ErrMissing
	}
	return flow(n, w, i), api.OK
}

// flow returns the litres that a link brings from From to To.
func flow(n api.Network, w api.Water, link int) int {
	if !w.Open[link] {
		return 0
	}
	l := n.Links[link]
	from, to := sideOf(n, w, l.From), sideOf(n, w, l.To)
	switch {
	case l.Kind == api.Pump:
		return pumped(l, from, to)
	case from.level(0) < to.level(0):
		return -passed(l, to, from)
	}
	return passed(l, from, to)
}

// A side of a link is a basin with its litres, or the sea with its level.
type side struct {
	isSea  bool
	sea    int
	basin  api.Basin
	litres int
}

func sideOf(n api.Network, w api.Water, name string) side {
	if name == "" {
		return side{isSea: true, sea: tide(n.Sea, w.Minute)}
	}
	i := findBasin(n, name)
	return side{basin: n.Basins[i], litres: w.Litres[i]}
}

// level returns the level after so many litres have come, which the basin must be able to hold.
func (s side) level(more int) int {
	if s.isSea {
		return s.sea
	}
	return levelOf(s.basin, s.litres+more)
}

// above returns the litres above a level.
func (s side) above(level int) int {
	if s.isSea {
		return math.MaxInt
	}
	return s.litres - volume(s.basin, level)
}

// room returns the litres that may still come.
func (s side) room() int {
	if s.isSea {
		return math.MaxInt
	}
	return capacity(s.basin) - s.litres
}

// pumped returns the litres that a pump that is running lifts.
func pumped(l api.Link, from, to side) int {
	if to.level(0)-from.level(0) > l.Lift {
		return 0
	}
	all := from.above(-api.MaxLength) // no floor is lower
	return min(l.Rate, all, to.room())
}

// passed returns the litres that an open gate lets through.
func passed(l api.Link, upper, lower side) int {
	head := upper.level(0) - max(l.Sill, lower.level(0))
	if head <= 0 {
		return 0
	}
	supply, room := upper.above(l.Sill), lower.room()
	passes := func(litres int) bool {
		return litres <= l.Factor*head &&
			litres <= supply &&
			litres <= room &&
			upper.level(-litres) >= lower.level(litres)
	}
	return greatest(l.Rate, passes)
}

// greatest returns the greatest number from 0 to a bound for which something holds that holds for
// 0, and for no number above one for which it does not.
func greatest(bound int, holds func(n int) bool) int {
	least, most := 0, bound
	for least < most {
		// rounded up, so that each turn makes the interval smaller
		middle := most - (most-least)/2
		if holds(middle) {
			least = middle
		} else {
			most = middle - 1
		}
	}
	return least
}
