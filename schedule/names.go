package schedule

import (
	"slices"
	"strings"

	"keelblock/api"
)

const (
	letters = "ABCDEFGHIJKLMNOPQRSTUVWXYZabcdefghijklmnopqrstuvwxyz"
	inNames = letters + "0123456789-"
)

// isName stands here although package common has one: this package uses package api alone.
func isName(s string) bool {
	return within(len(s), 1, api.MaxName) && strings.Contains(letters, s[:1]) && strings.Trim(s, inNames) == ""
}

func within(n, least, most int) bool { return least <= n && n <= most }

// namesOf returns the names of all things in a list.
func namesOf[T any](l []T, name func(T) string) []string {
	var out []string
	for _, x := range l {
		out = append(out, name(x))
	}
	return out
}

func itemNames(w api.Work) []string {
	return namesOf(w.Items, func(x api.Item) string { return x.Name })
}

func tradeNames(w api.Work) []string {
	return namesOf(w.Trades, func(x api.Trade) string { return x.Name })
}

func spaceNames(w api.Work) []string {
	return namesOf(w.Spaces, func(x api.Space) string { return x.Name })
}

// listError returns the error of things with names: too many of them, or else thing by thing that
// of its name, or its own.
func listError[T any](l []T, most int, names []string, own func(T) api.Errno) api.Errno {
	if len(l) > most {
		return api.ErrLarge
	}
	for i, s := range names {
		switch {
		case !isName(s):
			return api.ErrName
		case slices.Contains(names[:i], s):
			return api.ErrExists
		}
		if e := own(l[i]); e != api.OK {
			return e
		}
	}
	return api.OK
}
