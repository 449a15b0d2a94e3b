package schedule

import (
	"slices"

	"keelblock/api"
)

// CheckWork returns the error of work.
func CheckWork(w api.Work) api.Errno {
	for _, check := range []func(api.Work) api.Errno{
		tradesError, spacesError, exclusionsError, outagesError, itemsError, numbersError, circleError,
	} {
		if e := check(w); e != api.OK {
			return e
		}
	}
	return api.OK
}

func tradesError(w api.Work) api.Errno {
	return listError(w.Trades, api.MaxTrades, tradeNames(w), func(t api.Trade) api.Errno {
		if !within(t.Crew, 0, mostCrew) || !within(t.Rate, 0, mostRate) {
			return api.ErrRange
		}
		return api.OK
	})
}

func spacesError(w api.Work) api.Errno {
	names := spaceNames(w)
	return listError(w.Spaces, mostSpaces, names, func(s api.Space) api.Errno {
		for _, next := range s.Next {
			if !slices.Contains(names, next) {
				return api.ErrMissing
			}
		}
		return api.OK
	})
}

func exclusionsError(w api.Work) api.Errno {
	if len(w.Exclusions) > api.MaxRules {
		return api.ErrLarge
	}
	for _, x := range w.Exclusions {
		if !isKind(x.A) || !isKind(x.B) || !within(x.Reach, sameSpace, anySpace) {
			return api.ErrRange
		}
	}
	return api.OK
}

func isKind(n int) bool { return within(n, api.HotWork, api.Isolation) }

func outagesError(w api.Work) api.Errno {
	if len(w.Outages) > mostOutages {
		return api.ErrLarge
	}
	for _, x := range w.Outages {
		if !isDay(x.From) || !isDay(x.To) {
			return api.ErrRange
		}
		if x.To <= x.From {
			return api.ErrOrder
		}
	}
	return api.OK
}

func isDay(n int) bool { return within(n, 0, api.MaxDays) }

func itemsError(w api.Work) api.Errno {
	names, trades, spaces := itemNames(w), tradeNames(w), spaceNames(w)
	return listError(w.Items, api.MaxWork, names, func(x api.Item) api.Errno {
		trade := slices.Index(trades, x.Trade)
		if trade < 0 {
			return api.ErrMissing
		}
		if e := modesError(x.Modes, w.Trades[trade].Crew); e != api.OK {
			return e
		}
		switch {
		case x.Space != "" && !slices.Contains(spaces, x.Space):
			return api.ErrMissing
		case x.Kind != noKind && !isKind(x.Kind):
			return api.ErrRange
		case x.Kind != noKind && x.Space == "":
			return api.ErrForm
		}
		return afterError(x, names)
	})
}

// modesError returns the error of the modes of an item whose trade has so many people.
func modesError(l []api.Mode, crew int) api.Errno {
	if !within(len(l), 1, api.MaxModes) {
		return api.ErrRange
	}
	for _, m := range l {
		if !within(m.Days, 1, mostModeDays) || !within(m.Crew, 0, mostCrew) {
			return api.ErrRange
		}
		if m.Crew > crew {
			return api.ErrCapacity
		}
	}
	return api.OK
}

func afterError(x api.Item, names []string) api.Errno {
	for _, other := range x.After {
		if !slices.Contains(names, other) {
			return api.ErrMissing
		}
		if other == x.Name {
			return api.ErrForm
		}
	}
	return api.OK
}

func numbersError(w api.Work) api.Errno {
	if !within(w.Hire, 0, mostCost) || !within(w.Late, 0, mostCost) || !isDay(w.Due) || !isDay(w.Last) {
		return api.ErrRange
	}
	return api.OK
}

func circleError(w api.Work) api.Errno {
	if len(firstOrder(afterPlaces(w))) < len(w.Items) {
		return api.ErrCycle
	}
	return api.OK
}
