package schedule

import (
	"slices"

	"keelblock/api"
)

// Earliest returns the least first days of all items, and the least duration.
func Earliest(w api.Work) ([]int, int, api.Errno) {
	c, e := chartOf(w)
	if e != api.OK {
		return nil, 0, e
	}
	first, days := c.earliest()
	return first, days, api.OK
}

// Latest returns the greatest first days of all items with a duration.
func Latest(w api.Work, days int) ([]int, api.Errno) {
	c, e := chartOf(w)
	if e != api.OK {
		return nil, e
	}
	if _, least := c.earliest(); !within(days, least, api.MaxDays) {
		return nil, api.ErrLimit
	}
	return c.latest(days), api.OK
}

// Critical returns the names of the items that can not begin later.
func Critical(w api.Work) ([]string, api.Errno) {
	c, e := chartOf(w)
	if e != api.OK {
		return nil, e
	}
	first, days := c.earliest()
	var out []string
	for i, last := range c.latest(days) {
		if first[i] == last {
			out = append(out, c.names[i])
		}
	}
	return out, api.OK
}

// earliest returns the least first days, and the least duration.
func (c chart) earliest() ([]int, int) {
	first, days := make([]int, len(c.Items)), 0
	for _, i := range c.order {
		for _, k := range c.after[i] {
			first[i] = max(first[i], first[k]+c.leastDays(k))
		}
		days = max(days, first[i]+c.leastDays(i))
	}
	return first, days
}

// latest returns the greatest first days with which all items end at a day at the latest.
func (c chart) latest(days int) []int {
	last := make([]int, len(c.Items))
	for i := range last {
		last[i] = days - c.leastDays(i)
	}
	for _, i := range slices.Backward(c.order) {
		for _, k := range c.after[i] {
			last[k] = min(last[k], last[i]-c.leastDays(k))
		}
	}
	return last
}
