package berth

import "keelblock/api"

// CheckPlan checks that all ships are in a dock with its gap on all sides and between them.
func CheckPlan(d api.Dock, c []api.Call, s []api.Spot) api.Errno {
	_, e := boxesOf(d, c, s)
	return e
}

// Blocks returns the pairs of ships of which the first one is in the way of the second one to the
// gate.
func Blocks(d api.Dock, c []api.Call, s []api.Spot) ([][2]string, api.Errno) {
	boxes, e := boxesOf(d, c, s)
	if e != api.OK {
		return nil, e
	}
	var out [][2]string
	for i, a := range boxes {
		for j, b := range boxes {
			if a.blocks(b, d.Gap) {
				out = append(out, [2]string{c[i].Name, c[j].Name})
			}
		}
	}
	return out, api.OK
}

// LeaveOrder returns the first order in which no ship is blocked when it leaves. There always is
// one, as a ship is blocked by ships nearer to the gate only.
func LeaveOrder(d api.Dock, c []api.Call, s []api.Spot) ([]string, api.Errno) {
	boxes, e := boxesOf(d, c, s)
	if e != api.OK {
		return nil, e
	}
	left := make([]bool, len(c))
	canLeave := func(i int) bool {
		for j, a := range boxes {
			if !left[j] && a.blocks(boxes[i], d.Gap) {
				return false
			}
		}
		return !left[i]
	}
	var out []string
	for len(out) < len(c) {
		for i := range c {
			if canLeave(i) {
				left[i] = true
				out = append(out, c[i].Name)
				break
			}
		}
	}
	return out, api.OK
}

// A box is the rectangle of a ship in a dock.
type box struct{ x, y, length, beam int }

func boxAt(c api.Call, x, y int) box { return box{x: x, y: y, length: c.Length, beam: c.Beam} }

// isWithin reports whether the box is in the dock, with the gap on all sides.
func (b box) isWithin(d api.Dock) bool {
	return b.x >= d.Gap && b.x+b.length+d.Gap <= d.Length && b.y >= d.Gap && b.y+b.beam+d.Gap <= d.Width
}

// clashes reports whether two boxes are less than the gap apart along the dock and across it.
func (b box) clashes(o box, gap int) bool {
	return b.x < o.x+o.length+gap && o.x < b.x+b.length+gap && !b.isBeside(o, gap)
}

// isBeside reports whether two boxes are at least the gap apart across the dock.
func (b box) isBeside(o box, gap int) bool {
	return b.y+b.beam+gap <= o.y || o.y+o.beam+gap <= b.y
}

// blocks reports whether the box meets the way of another one to the gate.
func (b box) blocks(o box, gap int) bool { return b.x < o.x && !b.isBeside(o, gap) }

// boxesOf returns the boxes of a plan in the order of the ships, or the error of the plan.
func boxesOf(d api.Dock, c []api.Call, s []api.Spot) ([]box, api.Errno) {
	if e := dockError(d, c); e != api.OK {
		return nil, e
	}
	if len(s) != len(c) {
		return nil, api.ErrShape
	}
	boxes := make([]box, len(c))
	for _, p := range s {
		i := findCall(c, p.Call)
		if i < 0 {
			return nil, api.ErrMissing
		}
		if boxes[i].length > 0 { // a ship has a length, so that this is no zero value
			return nil, api.ErrExists
		}
		if !isDistance(p.X) || !isDistance(p.Y) {
			return nil, api.ErrRange
		}
		boxes[i] = boxAt(c[i], p.X, p.Y)
		if !boxes[i].isWithin(d) {
			return nil, api.ErrLimit
		}
	}
	if !areFree(boxes, func(a, b box) bool { return a.clashes(b, d.Gap) }) {
		return nil, api.ErrClash
	}
	return boxes, api.OK
}
