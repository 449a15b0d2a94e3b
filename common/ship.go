package common

import (
	"slices"

	"keelblock/api"
)

// CopyShip returns the same ship in new memory.
func CopyShip(s api.Ship) api.Ship {
	s.Stations = slices.Clone(s.Stations)
	for i, t := range s.Stations {
		s.Stations[i].Levels = slices.Clone(t.Levels)
		s.Stations[i].Halves = slices.Clone(t.Halves)
	}
	s.Items = slices.Clone(s.Items)
	return s
}
