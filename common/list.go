package common

import "keelblock/api"

// ListError returns the error of a list of named things: that of its length, and then item by item
// that of its name, or else its own.
func ListError[T any](l []T, most int, name func(T) string, own func(T) api.Errno) api.Errno {
	if len(l) > most {
		return api.ErrLarge
	}
	names := map[string]bool{}
	for _, x := range l {
		s := name(x)
		if !IsName(s) {
			return api.ErrName
		}
		if names[s] {
			return api.ErrExists
		}
		if e := own(x); e != api.OK {
			return e
		}
		names[s] = true
	}
	return api.OK
}
