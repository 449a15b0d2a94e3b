package water

import (
	"keelblock/api"
	"keelblock/common"
)

// CheckBasin returns the error of a basin.
func CheckBasin(b api.Basin) api.Errno {
	if !common.IsName(b.Name) {
		return api.ErrName
	}
	return sizeError(b)
}

// Volume returns the litres that a basin holds below a level.
func Volume(b api.Basin, level int) (int, api.Errno) {
	if e := CheckBasin(b); e != api.OK {
		return 0, e
	}
	if !isLevelOf(b, level) {
		return 0, api.ErrRange
	}
	return volume(b, level), api.OK
}

// Level returns the level to which the litres fill a basin.
func Level(b api.Basin, litres int) (int, api.Errno) {
	if e := CheckBasin(b); e != api.OK {
		return 0, e
	}
	if !common.Within(litres, 0, capacity(b)) {
		return 0, api.ErrRange
	}
	return levelOf(b, litres), api.OK
}

// sizeError returns the error of a basin beside that of its name.
func sizeError(b api.Basin) api.Errno {
	if !common.Within(len(b.Areas), 1, api.MaxAreas) {
		return api.ErrRange
	}
	for i, a := range b.Areas {
		if !isLevel(a.From) || !common.Within(a.Size, 1, largestArea) {
			return api.ErrRange
		}
		if i > 0 && a.From <= b.Areas[i-1].From {
			return api.ErrOrder
		}
	}
	highest := b.Areas[len(b.Areas)-1].From
	if !common.Within(b.Rim, highest+1, api.MaxLength) {
		return api.ErrRange
	}
	return api.OK
}

func isLevelOf(b api.Basin, level int) bool { return common.Within(level, b.Areas[0].From, b.Rim) }

func capacity(b api.Basin) int { return volume(b, b.Rim) }

// volume is Volume for any level: nothing is below the floor.
func volume(b api.Basin, level int) int {
	sum := 0
	for i, a := range b.Areas {
		top := level
		if i+1 < len(b.Areas) {
			top = min(level, b.Areas[i+1].From)
		}
		if top <= a.From {
			break
		}
		sum += (top - a.From) * a.Size
	}
	return sum
}

// levelOf is Level for litres that the basin holds.
func levelOf(b api.Basin, litres int) int {
	last := len(b.Areas) - 1
	for i, a := range b.Areas[:last] {
		part := (b.Areas[i+1].From - a.From) * a.Size
		if litres < part {
			return a.From + litres/a.Size
		}
		litres -= part
	}
	return b.Areas[last].From + litres/b.Areas[last].Size
}
