package berth

import (
	"keelblock/api"
	"keelblock/common"
	"keelblock/exact"
)

// Hold returns parts with which lines hold a wind, or a proof that there are none.
func Hold(l []api.Line, w api.Wind) (api.Mooring, api.Errno) {
	if e := common.FirstError(CheckLines(l), windError(w)); e != api.OK {
		return api.Mooring{}, e
	}
	return hold(l, w), api.OK
}

// CheckMooring checks parts that hold a wind, or a proof that none do, without a search.
func CheckMooring(l []api.Line, w api.Wind, m api.Mooring) api.Errno {
	if e := common.FirstError(CheckLines(l), windError(w)); e != api.OK {
		return e
	}
	given, wanted, right := m.Proof, len(pull{}), isProof
	if m.Holds {
		given, wanted, right = m.Parts, len(l), isHeld
	}
	if len(given) != wanted {
		return api.ErrShape
	}
	if !right(l, w, given) {
		return api.ErrProof
	}
	return api.OK
}

// Worst returns the number of the first wind that lines can not hold, or -1.
func Worst(l []api.Line, w []api.Wind) (int, api.Errno) {
	if e := CheckLines(l); e != api.OK {
		return 0, e
	}
	if len(w) > api.MaxWinds {
		return 0, api.ErrLarge
	}
	for _, x := range w {
		if e := windError(x); e != api.OK {
			return 0, e
		}
	}
	for i, x := range w {
		if !hold(l, x).Holds {
			return i, api.OK
		}
	}
	return -1, api.OK
}

func windError(w api.Wind) api.Errno {
	if !common.Within(w.X, -api.MaxMass, api.MaxMass) || !common.Within(w.Y, -api.MaxMass, api.MaxMass) || !common.Within(w.Turn, -mostTurn, mostTurn) {
		return api.ErrRange
	}
	return api.OK
}

// isHeld reports whether lines with these parts hold a wind.
func isHeld(l []api.Line, w api.Wind, parts []api.Rat) bool {
	for _, p := range parts {
		if common.Sign(p) < 0 || exact.CmpRat(p, common.Whole(1)) > 0 {
			return false
		}
	}
	for k, n := range pullOf(w) {
		total := common.Whole(n)
		for i, x := range l {
			total = exact.AddRat(total, exact.MulRat(parts[i], fullPull(x)[k]))
		}
		if common.Sign(total) != 0 {
			return false
		}
	}
	return true
}

// isProof reports whether three numbers prove that no parts of lines hold a wind.
func isProof(l []api.Line, w api.Wind, proof []api.Rat) bool {
	total := api.Rat{}
	for k, n := range pullOf(w) {
		total = exact.AddRat(total, common.Times(proof[k], n))
	}
	for _, x := range l {
		along := api.Rat{}
		for k, n := range fullPull(x) {
			along = exact.AddRat(along, exact.MulRat(proof[k], n))
		}
		if common.Sign(along) > 0 {
			total = exact.AddRat(total, along)
		}
	}
	return common.Sign(total) < 0
}

// fullPull returns the pull of a line with the part 1.
func fullPull(l api.Line) [3]api.Rat {
	var out [3]api.Rat
	for k, n := range direction(l) {
		out[k] = common.Over(common.Product(l.Most, n), common.Whole(spanOf(l)))
	}
	return out
}
