package water

import (
	"slices"
	"sort"

	"keelblock/api"
)

// CheckSea returns the error of the marks of a sea.
func CheckSea(m []api.Mark) api.Errno {
	if len(m) > api.MaxTide {
		return api.ErrLarge
	}
	for i, x := range m {
		if !isMinute(x.Minute) || !isLevel(x.Level) {
			return api.ErrRange
		}
		if i > 0 && x.Minute <= m[i-1].Minute {
			return api.ErrOrder
		}
	}
	return api.OK
}

// Tide returns the level of the sea at a minute.
func Tide(m []api.Mark, minute int) (int, api.Errno) {
	if e := CheckSea(m); e != api.OK {
		return 0, e
	}
	if !isMinute(minute) {
		return 0, api.ErrRange
	}
	if len(m) == 0 {
		return 0, api.ErrNone
	}
	return tide(m, minute), api.OK
}

// Above returns the first and the last minutes of the times in which the sea is at least at a level.
func Above(m []api.Mark, level, from, to int) ([][2]int, api.Errno) {
	if e := CheckSea(m); e != api.OK {
		return nil, e
	}
	if !isLevel(level) || !isMinute(from) || !isMinute(to) || from > to {
		return nil, api.ErrRange
	}
	if len(m) == 0 {
		return nil, api.ErrNone
	}
	var out [][2]int
	all := fromFirstToLastMinute(m)
	for i := range len(all) - 1 {
		start, end := above(all[i], all[i+1], level)
		start, end = max(start, from), min(end, to)
		if start > end {
			continue
		}
		// a time that goes on behind a mark begins at the mark, at which the one before it ends
		if n := len(out); n > 0 && start == out[n-1][1] {
			out[n-1][1] = end
		} else {
			out = append(out, [2]int{start, end})
		}
	}
	return out, api.OK
}

// HighWaters returns the marks at which the sea is highest before it falls.
func HighWaters(m []api.Mark) ([]api.Mark, api.Errno) {
	if e := CheckSea(m); e != api.OK {
		return nil, e
	}
	var out []api.Mark
	for i, x := range m {
		if i > 0 && x.Level <= m[i-1].Level {
			continue
		}
		next := slices.IndexFunc(m[i:], func(y api.Mark) bool { return y.Level != x.Level })
		if next < 0 || m[i+next].Level < x.Level {
			out = append(out, x)
		}
	}
	return out, api.OK
}

// tide is Tide for a minute and marks, of which there is at least one, that are checked.
func tide(m []api.Mark, minute int) int {
	i := sort.Search(len(m), func(i int) bool { return m[i].Minute > minute })
	if i == 0 {
		return m[0].Level
	}
	a := m[i-1]
	if i == len(m) {
		return a.Level
	}
	rise, time := m[i].Level-a.Level, m[i].Minute-a.Minute
	return a.Level + roundedDown(rise*(minute-a.Minute), time)
}

// roundedDown returns the greatest integer that is at most a / b, for b > 0, where the quotient of
// the language is the one nearer to 0.
func roundedDown(a, b int) int {
	if a < 0 && a%b != 0 {
		return a/b - 1
	}
	return a / b
}

// fromFirstToLastMinute adds marks at the ends of all time where there are none, which changes no
// level.
func fromFirstToLastMinute(m []api.Mark) []api.Mark {
	all := slices.Clone(m)
	if first := m[0]; first.Minute > 0 {
		all = slices.Insert(all, 0, api.Mark{Minute: 0, Level: first.Level})
	}
	if last := m[len(m)-1]; last.Minute < api.MaxMinutes {
		all = append(all, api.Mark{Minute: api.MaxMinutes, Level: last.Level})
	}
	return all
}

// above returns the first and the last one of the minutes from mark a to the next mark b at which
// the sea is at least at a level, in the wrong order if there are none. As the level is an integer,
// it does not matter that levels of the sea are rounded down.
func above(a, b api.Mark, level int) (first, last int) {
	rise, time := b.Level-a.Level, b.Minute-a.Minute
	switch {
	case a.Level >= level && b.Level >= level:
		return a.Minute, b.Minute
	case a.Level >= level:
		return a.Minute, a.Minute + (a.Level-level)*time/-rise
	case b.Level >= level:
		return b.Minute - (b.Level-level)*time/rise, b.Minute
	}
	return b.Minute, a.Minute
}
