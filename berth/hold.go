package berth

import (
	"keelblock/api"
	"keelblock/common"
	"keelblock/exact"
)

// hold is Hold for arguments that are checked. The unknowns are the pulls of the lines for each
// millimetre of their length and not their parts, so that all numbers are integers.
func hold(l []api.Line, w api.Wind) api.Mooring {
	var rows []api.Row
	for k, n := range pullOf(w) {
		var row []int
		for _, x := range l {
			row = append(row, direction(x)[k])
		}
		rows = append(rows, atMost(row, 1, -n), atMost(row, -1, n))
	}
	for i, x := range l {
		row := make([]int, len(l))
		row[i] = 1
		rows = append(rows, atMost(row, -1, 0), atMost(row, spanOf(x), x.Most))
	}
	pulls, multipliers, e := exact.Feasible(len(l), rows)
	if e != api.OK {
		return api.Mooring{Proof: proofOf(multipliers)}
	}
	m := api.Mooring{Holds: true}
	for i, x := range l {
		m.Parts = append(m.Parts, exact.MulRat(pulls[i], common.Ratio(spanOf(x), x.Most)))
	}
	return m
}

// atMost returns the row that the unknowns times coefs times a factor are at most a bound.
func atMost(coefs []int, factor, bound int) api.Row {
	row := api.Row{Bound: common.Whole(bound)}
	for _, n := range coefs {
		row.Coefs = append(row.Coefs, common.Product(n, factor))
	}
	return row
}

// proofOf returns the proof that multipliers of the rows contain: the two of each sum differ by its
// number. Those of the lines say no more than that pulls are not negative and have an upper bound,
// which is what a proof is judged by.
func proofOf(multipliers []api.Rat) []api.Rat {
	var proof []api.Rat
	for k := range len(pull{}) {
		proof = append(proof, exact.SubRat(multipliers[2*k+1], multipliers[2*k]))
	}
	return proof
}
