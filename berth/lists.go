package berth

import "slices"

// firstList returns the first list with one of the choices for each place, none of which clashes
// with another one, if there is one.
func firstList[T any](choices [][]T, clash func(a, b T) bool) ([]T, bool) {
	var list []T
	var extend func() bool
	extend = func() bool {
		i := len(list)
		if i == len(choices) {
			return true
		}
		for _, x := range choices[i] {
			if !isFree(list, x, clash) {
				continue
			}
			list = append(list, x)
			if extend() {
				return true
			}
			list = list[:i]
		}
		return false
	}
	found := extend()
	return list, found
}

// areFree reports whether no two of a list clash.
func areFree[T any](l []T, clash func(a, b T) bool) bool {
	for i, x := range l {
		if !isFree(l[:i], x, clash) {
			return false
		}
	}
	return true
}

// isFree reports whether something clashes with none of a list.
func isFree[T any](taken []T, x T, clash func(a, b T) bool) bool {
	return !slices.ContainsFunc(taken, func(o T) bool { return clash(o, x) })
}
