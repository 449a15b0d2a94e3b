package hull

import (
	"slices"

	"keelblock/api"
	"keelblock/common"
)

// Loads returns the total of a ship and all its loads.
func Loads(s api.Ship) (api.Centre, api.Errno) {
	if e := Check(s); e != api.OK {
		return api.Centre{}, e
	}
	return total(s), api.OK
}

// With returns the ship with one more load.
func With(s api.Ship, l api.Load) (api.Ship, api.Errno) {
	if e := Check(s); e != api.OK {
		return api.Ship{}, e
	}
	out := common.CopyShip(s)
	out.Items = append(out.Items, l)
	if e := Check(out); e != api.OK {
		return api.Ship{}, e
	}
	return out, api.OK
}

// Without returns the ship without a load.
func Without(s api.Ship, name string) (api.Ship, api.Errno) {
	i, e := item(s, name)
	if e != api.OK {
		return api.Ship{}, e
	}
	out := common.CopyShip(s)
	out.Items = slices.Delete(out.Items, i, i+1)
	return out, api.OK
}

// Move returns the ship with a load at another place.
func Move(s api.Ship, name string, x, z int) (api.Ship, api.Errno) {
	i, e := item(s, name)
	if e != api.OK {
		return api.Ship{}, e
	}
	if !isCentre(x, z) {
		return api.Ship{}, api.ErrRange
	}
	out := common.CopyShip(s)
	out.Items[i].X, out.Items[i].Z = x, z
	return out, api.OK
}

// item returns the number of the item with a name.
func item(s api.Ship, name string) (int, api.Errno) {
	if e := Check(s); e != api.OK {
		return 0, e
	}
	i := find(s.Items, name)
	if i < 0 {
		return 0, api.ErrMissing
	}
	return i, api.OK
}

// total is Loads for a ship that is checked, whose sums are within int.
func total(s api.Ship) api.Centre {
	var c api.Centre
	along, up := 0, 0
	for _, l := range allLoads(s) {
		c.Mass += l.Mass
		c.Free += l.Free
		along += l.Mass * l.X
		up += l.Mass * l.Z
	}
	c.X, c.Z = common.Ratio(along, c.Mass), common.Ratio(up, c.Mass)
	return c
}

func allLoads(s api.Ship) []api.Load { return append([]api.Load{s.Light}, s.Items...) }
