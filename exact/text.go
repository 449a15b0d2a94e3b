package exact

import (
	"slices"
	"strconv"
	"strings"

	"keelblock/api"
)

const (
	intBytes = 400
	ratBytes = 800
)

// Format writes an integer.
func Format(a api.Int) string {
	left := slices.Clone(size(a))
	if len(left) == 0 {
		return "0"
	}
	// a limb has room for four digits: groups of them take a quarter of the divisions
	var groups []uint16
	for len(left) > 0 {
		groups = append(groups, divideBy(left, 10000))
		left = trim(left)
	}
	out := make([]byte, 0, 4*len(groups)+1)
	if a.Neg {
		out = append(out, '-')
	}
	last := len(groups) - 1
	out = strconv.AppendUint(out, uint64(groups[last]), 10)
	for i := last - 1; i >= 0; i-- {
		out = appendGroup(out, groups[i])
	}
	return string(out)
}

func appendGroup(out []byte, g uint16) []byte {
	return append(out, '0'+byte(g/1000), '0'+byte(g/100%10), '0'+byte(g/10%10), '0'+byte(g%10))
}

// Parse reads what Format writes.
func Parse(s string) (api.Int, api.Errno) {
	if len(s) > intBytes {
		return api.Int{}, api.ErrLarge
	}
	return readInteger(s)
}

// readInteger is Parse for texts of any length, as the numerator of a fraction may have more
// bytes than Parse accepts.
func readInteger(s string) (api.Int, api.Errno) {
	digits, neg := strings.CutPrefix(s, "-")
	if !isPlain(digits) || neg && digits == "0" {
		return api.Int{}, api.ErrSyntax
	}
	// a limb for every four digits is more than enough
	limbs := make([]uint16, len(digits)/4+1)
	for i := range len(digits) {
		appendDigit(limbs, digits[i]-'0')
	}
	return integer(neg, trim(limbs)), api.OK
}

// isPlain reports whether these are digits without a zero that could be left out.
func isPlain(digits string) bool {
	if digits == "" || digits[0] == '0' && digits != "0" {
		return false
	}
	for i := range len(digits) {
		if digits[i] < '0' || digits[i] > '9' {
			return false
		}
	}
	return true
}

func appendDigit(limbs []uint16, digit byte) {
	carry := uint32(digit)
	for i, x := range limbs {
		carry += 10 * uint32(x)
		limbs[i] = uint16(carry)
		carry >>= 16
	}
}

// FormatRat writes a fraction.
func FormatRat(x api.Rat) string {
	x = normal(x)
	if isOne(x.Den.Limbs) {
		return Format(x.Num)
	}
	return Format(x.Num) + "/" + Format(x.Den)
}

// ParseRat reads what FormatRat writes.
func ParseRat(s string) (api.Rat, api.Errno) {
	if len(s) > ratBytes {
		return api.Rat{}, api.ErrLarge
	}
	above, below, divided := strings.Cut(s, "/")
	if !divided {
		below = "1"
	}
	num, e := readInteger(above)
	den, f := readInteger(below)
	if e != api.OK || f != api.OK {
		return api.Rat{}, api.ErrSyntax
	}
	// a fraction that is written otherwise has another text, "1/0" too
	x := normal(api.Rat{Num: num, Den: den})
	if FormatRat(x) != s {
		return api.Rat{}, api.ErrSyntax
	}
	return x, api.OK
}
