package schedule

import "math/bits"

// A daySet is a set of days from 0 to 63, a bit each.
type daySet uint64

// daysOf returns the days of a period.
func daysOf(t period) daySet { return 1<<t.to - 1<<t.from }

func (d daySet) count() int { return bits.OnesCount64(uint64(d)) }

// first returns the first day of a set that is not empty.
func (d daySet) first() int { return bits.TrailingZeros64(uint64(d)) }

func (d daySet) has(day int) bool { return d>>day&1 == 1 }

// without returns the set without its first days.
func (d daySet) without(count int) daySet {
	for range count {
		d &= d - 1
	}
	return d
}

// runs returns the days from which on n days in a row are in the set.
func (d daySet) runs(n int) daySet {
	for have := 1; have < n; {
		more := min(have, n-have)
		d &= d >> more
		have += more
	}
	return d
}
