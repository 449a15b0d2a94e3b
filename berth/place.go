package berth

import (
	"slices"

	"keelblock/api"
)

// Place returns the first right plan with normal places.
func Place(d api.Dock, c []api.Call) ([]api.Spot, api.Errno) {
	if e := dockError(d, c); e != api.OK {
		return nil, e
	}
	if len(c) > mostSearched {
		return nil, api.ErrLarge
	}
	var choices [][]box
	for i := range c {
		choices = append(choices, normalBoxes(d, c, i))
	}
	boxes, found := firstList(choices, func(a, b box) bool { return a.clashes(b, d.Gap) })
	if !found {
		return nil, api.ErrNone
	}
	var out []api.Spot
	for i, b := range boxes {
		out = append(out, api.Spot{Call: c[i].Name, X: b.x, Y: b.y})
	}
	return out, api.OK
}

// normalBoxes returns the boxes of a ship at all its normal places within the dock, in the order in
// which plans are compared.
func normalBoxes(d api.Dock, c []api.Call, ship int) []box {
	var lengths, beams []int
	for i, o := range c {
		if i != ship {
			lengths, beams = append(lengths, o.Length+d.Gap), append(beams, o.Beam+d.Gap)
		}
	}
	var out []box
	for _, x := range normalPlaces(d.Gap, lengths) {
		for _, y := range normalPlaces(d.Gap, beams) {
			if b := boxAt(c[ship], x, y); b.isWithin(d) {
				out = append(out, b)
			}
		}
	}
	return out
}

// normalPlaces returns the gap plus the sums of all subsets of some sizes, ascending.
func normalPlaces(gap int, sizes []int) []int {
	places := []int{gap}
	for _, size := range sizes {
		for _, p := range slices.Clone(places) {
			places = append(places, p+size)
		}
	}
	slices.Sort(places)
	return slices.Compact(places)
}
