package berth

import (
	"keelblock/api"
	"keelblock/common"
)

// CheckLines returns the error of a list of mooring lines.
func CheckLines(l []api.Line) api.Errno {
	name := func(l api.Line) string { return l.Name }
	return common.ListError(l, api.MaxLines, name, func(l api.Line) api.Errno {
		if !isBetweenPlaces(l) || !common.Within(l.Most, 1, api.MaxMass) {
			return api.ErrRange
		}
		if l.X == l.ToX && l.Y == l.ToY {
			return api.ErrZero
		}
		return api.OK
	})
}

// Span returns the distance of fairlead and bollard, rounded up.
func Span(l api.Line) (int, api.Errno) {
	if e := CheckLines([]api.Line{l}); e != api.OK {
		return 0, e
	}
	return spanOf(l), api.OK
}

func isBetweenPlaces(l api.Line) bool {
	return common.IsPlace(l.X) && common.IsPlace(l.Y) && common.IsPlace(l.ToX) && common.IsPlace(l.ToY)
}

// A span is less than 2 to the power of spanBits, as no coordinate of one end is more than
// 2 * api.MaxLength from that of the other one.
const spanBits = 22

// spanOf is Span for a line that is checked.
func spanOf(l api.Line) int {
	along, across := l.ToX-l.X, l.ToY-l.Y
	square := along*along + across*across
	// the greatest integer that is less than the distance, bit by bit
	less := 0
	for i := range spanBits {
		bit := 1 << (spanBits - 1 - i)
		if n := less + bit; n*n < square {
			less = n
		}
	}
	return less + 1
}

// A pull is two forces and their moment, of the wind or of a line, in the order of a proof.
type pull [3]int

func pullOf(w api.Wind) pull { return pull{w.X, w.Y, w.Turn} }

// direction returns the pull of a line with a force that is its length.
func direction(l api.Line) pull {
	along, across := l.ToX-l.X, l.ToY-l.Y
	return pull{along, across, l.X*across - l.Y*along}
}
