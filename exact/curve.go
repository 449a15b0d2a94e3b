package exact

import (
	"slices"

	"keelblock/api"
)

// farthest is how far from 0 a curve may start or bend.
const farthest = 10000000

// CheckCurve returns the error of a curve.
func CheckCurve(c api.Curve) api.Errno {
	if len(c.Starts) > api.MaxStarts {
		return api.ErrLarge
	}
	if len(c.Slopes) != len(c.Starts) {
		return api.ErrShape
	}
	for i, at := range c.Starts {
		if at < -farthest || at > farthest || ratSign(c.Slopes[i]) < 0 {
			return api.ErrRange
		}
		if i > 0 && at <= c.Starts[i-1] {
			return api.ErrOrder
		}
	}
	return api.OK
}

// Value returns the value of a curve.
func Value(c api.Curve, y api.Rat) (api.Rat, api.Errno) {
	if e := CheckCurve(c); e != api.OK {
		return api.Rat{}, e
	}
	return along(c, y, rise), api.OK
}

// Slope returns the slope on the right side.
func Slope(c api.Curve, y api.Rat) (api.Rat, api.Errno) {
	if e := CheckCurve(c); e != api.OK {
		return api.Rat{}, e
	}
	return normal(slopeAt(c, y)), api.OK
}

// Integral returns the integral of a curve up to a number.
func Integral(c api.Curve, y api.Rat) (api.Rat, api.Errno) {
	if e := CheckCurve(c); e != api.OK {
		return api.Rat{}, e
	}
	half := api.Rat{Num: Of(1), Den: Of(2)}
	area := along(c, y, func(slope, from, to api.Rat) api.Rat {
		// what a part adds to the height counts along half of it and along all that lies behind it
		behind := SubRat(y, product(AddRat(from, to), half))
		return product(rise(slope, from, to), behind)
	})
	return area, api.OK
}

// Sum returns the sum of two curves.
func Sum(a, b api.Curve) (api.Curve, api.Errno) {
	if e := CheckCurve(a); e != api.OK {
		return api.Curve{}, e
	}
	if e := CheckCurve(b); e != api.OK {
		return api.Curve{}, e
	}
	starts := slices.Concat(a.Starts, b.Starts)
	slices.Sort(starts)
	starts = slices.Compact(starts)
	slopes := make([]api.Rat, len(starts))
	for i, at := range starts {
		x := number(at)
		slopes[i] = AddRat(slopeAt(a, x), slopeAt(b, x))
	}
	sum := bends(starts, slopes)
	if len(sum.Starts) > api.MaxStarts {
		return api.Curve{}, api.ErrLarge
	}
	return sum, api.OK
}

// Shift moves a curve to greater numbers.
func Shift(c api.Curve, by int) (api.Curve, api.Errno) {
	if e := CheckCurve(c); e != api.OK {
		return api.Curve{}, e
	}
	moved := bends(c.Starts, c.Slopes)
	for i, at := range moved.Starts {
		// compared without the sum, which may be beyond the range of int
		if by < -farthest-at || by > farthest-at {
			return api.Curve{}, api.ErrRange
		}
		moved.Starts[i] = at + by
	}
	return moved, api.OK
}

// Reach returns the least number at which a curve has a value.
func Reach(c api.Curve, v api.Rat) (api.Rat, api.Errno) {
	if e := CheckCurve(c); e != api.OK {
		return api.Rat{}, e
	}
	if ratSign(v) <= 0 {
		return api.Rat{}, api.ErrRange
	}
	return reach(c, v)
}

// reach goes up the parts of the curve until what is left of v fits into one.
func reach(c api.Curve, v api.Rat) (api.Rat, api.Errno) {
	for i, at := range c.Starts {
		width, e := QuoRat(v, c.Slopes[i])
		if e != api.OK {
			continue
		}
		if i == len(c.Starts)-1 {
			return AddRat(number(at), width), api.OK
		}
		most := number(c.Starts[i+1] - at)
		if CmpRat(width, most) <= 0 {
			return AddRat(number(at), width), api.OK
		}
		v = SubRat(v, product(c.Slopes[i], most))
	}
	return api.Rat{}, api.ErrNone
}

// Capacity returns the least upper bound of a curve.
func Capacity(c api.Curve) (api.Rat, bool, api.Errno) {
	if e := CheckCurve(c); e != api.OK {
		return api.Rat{}, false, e
	}
	last := len(c.Starts) - 1
	if last < 0 {
		return number(0), true, api.OK
	}
	if ratSign(c.Slopes[last]) > 0 {
		return api.Rat{}, false, api.OK
	}
	return along(c, number(c.Starts[last]), rise), true, api.OK
}

// rise returns what a slope adds to the curve between two places.
func rise(slope, from, to api.Rat) api.Rat { return product(slope, SubRat(to, from)) }

// along goes through the parts of a curve up to y, from the left, and adds up what part says
// of the slope and the ends of each.
func along(c api.Curve, y api.Rat, part func(slope, from, to api.Rat) api.Rat) api.Rat {
	sum := newTotal()
	n := startsUpTo(c, y)
	for i := range n {
		to := y
		if i+1 < n {
			to = number(c.Starts[i+1])
		}
		sum.add(part(c.Slopes[i], number(c.Starts[i]), to))
	}
	return sum.value()
}

// startsUpTo counts the starts that are not greater than y.
func startsUpTo(c api.Curve, y api.Rat) int {
	floor := Floor(y)
	most, ok := Small(floor)
	if !ok && sign(floor) > 0 {
		return len(c.Starts)
	}
	if !ok {
		return 0
	}
	n, there := slices.BinarySearch(c.Starts, most)
	if there {
		n++
	}
	return n
}

// slopeAt returns the slope on the right side of y, in the memory of the curve.
func slopeAt(c api.Curve, y api.Rat) api.Rat {
	if n := startsUpTo(c, y); n > 0 {
		return c.Slopes[n-1]
	}
	return api.Rat{}
}

// bends returns the normalized curve with these starts and slopes.
func bends(starts []int, slopes []api.Rat) api.Curve {
	out, before := api.Curve{}, api.Rat{}
	for i, at := range starts {
		if CmpRat(slopes[i], before) == 0 {
			continue
		}
		out.Starts = append(out.Starts, at)
		out.Slopes = append(out.Slopes, normal(slopes[i]))
		before = slopes[i]
	}
	return out
}
