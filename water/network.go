package water

import (
	"slices"

	"keelblock/api"
	"keelblock/common"
)

// CheckNetwork returns the error of a network.
func CheckNetwork(n api.Network) api.Errno {
	return common.FirstError(basinsError(n.Basins), CheckSea(n.Sea), linksError(n))
}

// Fill returns the state with these levels and all links shut.
func Fill(n api.Network, minute int, levels []int) (api.Water, api.Errno) {
	if e := CheckNetwork(n); e != api.OK {
		return api.Water{}, e
	}
	if !isMinute(minute) {
		return api.Water{}, api.ErrRange
	}
	if len(levels) != len(n.Basins) {
		return api.Water{}, api.ErrShape
	}
	w := api.Water{Minute: minute, Open: make([]bool, len(n.Links))}
	for i, b := range n.Basins {
		if !isLevelOf(b, levels[i]) {
			return api.Water{}, api.ErrRange
		}
		w.Litres = append(w.Litres, volume(b, levels[i]))
	}
	return w, api.OK
}

// Levels returns the levels of the basins.
func Levels(n api.Network, w api.Water) ([]int, api.Errno) {
	if e := waterError(n, w); e != api.OK {
		return nil, e
	}
	var out []int
	for i, b := range n.Basins {
		out = append(out, levelOf(b, w.Litres[i]))
	}
	return out, api.OK
}

func basinsError(l []api.Basin) api.Errno {
	return common.ListError(l, api.MaxBasins, func(b api.Basin) string { return b.Name }, sizeError)
}

func linksError(n api.Network) api.Errno {
	name := func(l api.Link) string { return l.Name }
	return common.ListError(n.Links, api.MaxLinks, name, func(l api.Link) api.Errno {
		return common.FirstError(endsError(n, l), rateError(l))
	})
}

// endsError returns the error of what a link joins, and how.
func endsError(n api.Network, l api.Link) api.Errno {
	switch {
	case l.Kind != api.Gate && l.Kind != api.Pump:
		return api.ErrForm
	case !isEnd(n, l.From) || !isEnd(n, l.To):
		return api.ErrMissing
	case l.From == l.To:
		return api.ErrForm
	case (l.From == "" || l.To == "") && len(n.Sea) == 0:
		return api.ErrNone
	}
	return api.OK
}

func isEnd(n api.Network, name string) bool { return name == "" || findBasin(n, name) >= 0 }

// rateError returns the error of the numbers of a link that has a kind.
func rateError(l api.Link) api.Errno {
	fits := common.Within(l.Lift, 0, api.MaxLength)
	if l.Kind == api.Gate {
		fits = isLevel(l.Sill) && common.Within(l.Factor, 0, mostLitres)
	}
	if !fits || !common.Within(l.Rate, 0, mostLitres) {
		return api.ErrRange
	}
	return api.OK
}

// waterError returns the error of a network, or that of its state.
func waterError(n api.Network, w api.Water) api.Errno {
	if e := CheckNetwork(n); e != api.OK {
		return e
	}
	if !isMinute(w.Minute) {
		return api.ErrRange
	}
	if len(w.Litres) != len(n.Basins) || len(w.Open) != len(n.Links) {
		return api.ErrShape
	}
	for i, b := range n.Basins {
		if !common.Within(w.Litres[i], 0, capacity(b)) {
			return api.ErrRange
		}
	}
	return api.OK
}

func turnsError(n api.Network, l []api.Turn) api.Errno {
	if len(l) > mostTurns {
		return api.ErrLarge
	}
	for i, t := range l {
		if !isMinute(t.Minute) {
			return api.ErrRange
		}
		if i > 0 && t.Minute < l[i-1].Minute {
			return api.ErrOrder
		}
		if findLink(n, t.Link) < 0 {
			return api.ErrMissing
		}
	}
	return api.OK
}

// findBasin returns the number of the basin with a name, or -1, as for the sea.
func findBasin(n api.Network, name string) int {
	return slices.IndexFunc(n.Basins, func(b api.Basin) bool { return b.Name == name })
}

// findLink returns the number of the link with a name, or -1.
func findLink(n api.Network, name string) int {
	return slices.IndexFunc(n.Links, func(l api.Link) bool { return l.Name == name })
}
