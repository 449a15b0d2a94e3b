package hull

import (
	"slices"
	"sort"

	"keelblock/api"
	"keelblock/common"
	"keelblock/exact"
)

const (
	// cubicMetre is in cubic millimetres: volumes are in these, densities for cubic metres.
	cubicMetre   = 1000000000
	mostDraughts = 100
)

// Immersion returns the height of the water above the keel line at a place.
func Immersion(a api.Attitude, x int) api.Rat { return heightAt(a, common.Whole(x)) }

// Area returns the immersed area of a station.
func Area(t api.Station, y api.Rat) (api.Rat, api.Errno) {
	if e := stationError(t); e != api.OK {
		return api.Rat{}, e
	}
	return immerse(t, y).area, api.OK
}

// Half returns the half breadth of a station at the water.
func Half(t api.Station, y api.Rat) (int, api.Errno) {
	if e := stationError(t); e != api.OK {
		return 0, e
	}
	return immerse(t, y).half, api.OK
}

// Hydrostatics returns what the water does to a ship at an attitude.
func Hydrostatics(s api.Ship, a api.Attitude, density int) (api.Hydro, api.Errno) {
	if e := common.FirstError(Check(s), densityError(density)); e != api.OK {
		return api.Hydro{}, e
	}
	return hydrostatics(s, a, density)
}

// Table returns the hydrostatics on an even keel at some draughts.
func Table(s api.Ship, draughts []int, density int) ([]api.Hydro, api.Errno) {
	if e := common.FirstError(Check(s), densityError(density)); e != api.OK {
		return nil, e
	}
	if len(draughts) > mostDraughts {
		return nil, api.ErrLarge
	}
	table := make([]api.Hydro, 0, len(draughts))
	for _, d := range draughts {
		h, e := hydrostatics(s, api.Attitude{Sink: common.Whole(d)}, density)
		if e != api.OK {
			return nil, e
		}
		table = append(table, h)
	}
	return table, api.OK
}

// Draught returns the least draught on an even keel at which a ship displaces a mass.
func Draught(s api.Ship, mass, density int) (api.Rat, api.Errno) {
	if e := common.FirstError(Check(s), densityError(density)); e != api.OK {
		return api.Rat{}, e
	}
	if !common.Within(mass, 1, api.MaxMass) {
		return api.Rat{}, api.ErrRange
	}
	displaced := func(level int) api.Rat {
		sum := api.Rat{}
		for _, t := range s.Stations {
			sum = exact.AddRat(sum, displacement(t, common.Whole(level), density))
		}
		return sum
	}
	wanted, levels := common.Whole(mass), levelsOf(s)
	n := sort.Search(len(levels), func(i int) bool { return exact.CmpRat(displaced(levels[i]), wanted) >= 0 })
	if n == len(levels) {
		return api.Rat{}, api.ErrSink
	}
	// nothing is displaced at the first level, so there is one before n; between both, which differ,
	// the displacement grows evenly
	low, high := levels[n-1], levels[n]
	less := displaced(low)
	part := common.Over(exact.SubRat(wanted, less), exact.SubRat(displaced(high), less))
	return exact.AddRat(common.Whole(low), common.Times(part, high-low)), api.OK
}

// Supports returns the strips of a ship as supports by the water.
func Supports(s api.Ship, density int) ([]api.Support, api.Errno) {
	if e := common.FirstError(Check(s), densityError(density)); e != api.OK {
		return nil, e
	}
	var l []api.Support
	for _, t := range s.Stations {
		c := api.Curve{Starts: slices.Clone(t.Levels)}
		for _, h := range t.Halves {
			c.Slopes = append(c.Slopes, common.Ratio(2*h*t.Width*density, cubicMetre))
		}
		c.Slopes = append(c.Slopes, common.Whole(0))
		l = append(l, api.Support{X: t.X, C: common.Whole(0), Curve: c})
	}
	return l, api.OK
}

// heightAt returns the height of the water at any place, also between whole millimetres.
func heightAt(a api.Attitude, x api.Rat) api.Rat {
	return exact.AddRat(a.Sink, exact.MulRat(a.Slope, x))
}

// An immersed is the part of a station's section below the water.
type immersed struct {
	area, moment api.Rat // the moment is that of the area about the keel line
	half         int     // at the water
}

func immerse(t api.Station, y api.Rat) immersed {
	// as many levels are not above the water: what lies between these is immersed as a whole
	n := sort.Search(len(t.Levels), func(k int) bool { return exact.CmpRat(common.Whole(t.Levels[k]), y) > 0 })
	area, moment := 0, 0
	for k := range n - 1 {
		low, high := t.Levels[k], t.Levels[k+1]
		area += 2 * t.Halves[k] * (high - low)
		moment += t.Halves[k] * (high*high - low*low)
	}
	wet := immersed{area: common.Whole(area), moment: common.Whole(moment)}
	if n == 0 || n == len(t.Levels) {
		return wet
	}
	wet.half = t.Halves[n-1]
	low := common.Whole(t.Levels[n-1])
	part := common.Times(exact.SubRat(y, low), wet.half)
	wet.area = exact.AddRat(wet.area, common.Times(part, 2))
	wet.moment = exact.AddRat(wet.moment, exact.MulRat(part, exact.AddRat(y, low)))
	return wet
}

// displacement returns the mass of the water that a station displaces.
func displacement(t api.Station, y api.Rat, density int) api.Rat {
	return massOf(common.Times(immerse(t, y).area, t.Width), density)
}

func massOf(volume api.Rat, density int) api.Rat {
	return exact.MulRat(volume, common.Ratio(density, cubicMetre))
}

// levelsOf returns the levels of all stations, at which alone the breadth of the ship changes.
func levelsOf(s api.Ship) []int {
	var l []int
	for _, t := range s.Stations {
		l = append(l, t.Levels...)
	}
	slices.Sort(l)
	return l
}

// hydrostatics is Hydrostatics for arguments that are checked.
func hydrostatics(s api.Ship, a api.Attitude, density int) (api.Hydro, api.Errno) {
	var m moments
	for _, t := range s.Stations {
		m.add(t, immerse(t, Immersion(a, t.X)))
	}
	if common.Sign(m.volume) == 0 {
		return api.Hydro{}, api.ErrNone
	}
	h := api.Hydro{
		Volume:       m.volume,
		Displacement: massOf(m.volume, density),
		X:            common.Over(m.along, m.volume),
		Z:            common.Over(m.up, m.volume),
		Area:         m.plane.area,
		Float:        common.Whole(0),
		Cross:        m.plane.cross,
	}
	if common.Sign(h.Area) > 0 {
		h.Float = common.Over(m.plane.along, h.Area)
	}
	// the sum of squares about Float, with the square put out
	h.Long = exact.SubRat(m.plane.squares, exact.MulRat(h.Float, m.plane.along))
	h.Meta = exact.AddRat(h.Z, common.Over(h.Cross, h.Volume))
	return h, api.OK
}

// The moments of a ship in the water are sums over its stations.
type moments struct {
	volume, along, up api.Rat
	plane             plane
}

// A plane is the waterplane: its area and moments, squares being about X = 0.
type plane struct{ area, along, squares, cross api.Rat }

func (m *moments) add(t api.Station, wet immersed) {
	volume := common.Times(wet.area, t.Width)
	m.volume = exact.AddRat(m.volume, volume)
	m.along = exact.AddRat(m.along, common.Times(volume, t.X))
	m.up = exact.AddRat(m.up, common.Times(wet.moment, t.Width))
	m.plane.add(t, wet.half)
}

func (p *plane) add(t api.Station, half int) {
	p.area = exact.AddRat(p.area, common.Product(2, half, t.Width))
	p.along = exact.AddRat(p.along, common.Product(2, half, t.Width, t.X))
	p.squares = exact.AddRat(p.squares, common.Product(2, half, t.Width, t.X, t.X))
	p.cross = exact.AddRat(p.cross, common.Over(common.Product(2, half, half, half, t.Width), common.Whole(3)))
}
