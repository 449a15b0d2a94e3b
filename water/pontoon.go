package water

import (
	"keelblock/api"
	"keelblock/common"
)

// cubicMetre is in cubic millimetres: densities are for cubic metres.
const cubicMetre = 1000000000

// CheckPontoon returns the error of a floating dock.
func CheckPontoon(p api.Pontoon) api.Errno {
	if !common.Within(p.Length, 1, api.MaxLength) || !common.Within(p.Breadth, 1, api.MaxLength) {
		return api.ErrRange
	}
	if !common.Within(p.Density, api.MinDensity, api.MaxDensity) {
		return api.ErrRange
	}
	return common.FirstError(massesError(p.Masses), tanksError(p.Tanks))
}

// Float returns the pose of a floating dock whose tanks hold so many steps.
func Float(p api.Pontoon, steps []int) (api.Pose, api.Errno) {
	if e := CheckPontoon(p); e != api.OK {
		return api.Pose{}, e
	}
	if e := stepsError(p, steps); e != api.OK {
		return api.Pose{}, e
	}
	const slope = 12 * cubicMetre
	s := sumUp(p, stateOf(steps))
	l, b := p.Length, p.Breadth
	return api.Pose{
		Draught: common.Over(common.Product(cubicMetre, s.mass), common.Product(p.Density, l, b)),
		Trim:    common.Over(common.Product(slope, s.along), common.Product(p.Density, b, l, l, l)),
		Heel:    common.Over(common.Product(slope, s.across), common.Product(p.Density, l, b, b, b)),
		Hog:     common.Ratio(s.bending(l), 8),
	}, api.OK
}

func massesError(l []api.PointMass) api.Errno {
	if len(l) > mostMasses {
		return api.ErrLarge
	}
	for _, m := range l {
		if !common.IsPlace(m.X) || !common.IsPlace(m.Y) || !common.Within(m.Mass, 0, api.MaxMass) {
			return api.ErrRange
		}
	}
	return api.OK
}

func tanksError(l []api.Tank) api.Errno {
	name := func(t api.Tank) string { return t.Name }
	return common.ListError(l, api.MaxTanks, name, func(t api.Tank) api.Errno {
		if !common.IsPlace(t.X) || !common.IsPlace(t.Y) {
			return api.ErrRange
		}
		if !common.Within(t.Steps, 0, api.MaxSteps) || !common.Within(t.Mass, 0, api.MaxMass) {
			return api.ErrRange
		}
		return api.OK
	})
}

func stepsError(p api.Pontoon, steps []int) api.Errno {
	if len(steps) != len(p.Tanks) {
		return api.ErrShape
	}
	for i, t := range p.Tanks {
		if !common.Within(steps[i], 0, t.Steps) {
			return api.ErrRange
		}
	}
	return api.OK
}

// A state is the steps in all tanks, 0 behind the last tank.
type state [api.MaxTanks]int

func stateOf(steps []int) state {
	var s state
	copy(s[:], steps)
	return s
}

// Sums over all masses: they alone decide on the pose. Within the limits none exceeds an int.
type sums struct {
	mass          int
	along, across int // moments
	apart         int // the moment by the distances from the middle
}

func sumUp(p api.Pontoon, steps state) sums {
	var s sums
	for _, m := range p.Masses {
		s.add(m)
	}
	for i, t := range p.Tanks {
		s.add(api.PointMass{X: t.X, Y: t.Y, Mass: steps[i] * t.Mass})
	}
	return s
}

func (s *sums) add(m api.PointMass) {
	s.mass += m.Mass
	s.along += m.Mass * m.X
	s.across += m.Mass * m.Y
	s.apart += m.Mass * max(m.X, -m.X)
}

// bending returns eight times the bending moment, which is an integer.
func (s sums) bending(length int) int { return 4*s.apart - s.mass*length }
