package floating

import (
	"cmp"
	"slices"

	"keelblock/api"
	"keelblock/common"
	"keelblock/exact"
)

// CheckRefusal returns api.OK if r proves that the body has no equilibrium.
func CheckRefusal(b api.Body, r api.Refusal) api.Errno {
	if e := CheckBody(b); e != api.OK {
		return e
	}
	yields := common.Whole(0)
	for _, m := range limitsOf(b.Supports) {
		way := along(r, common.Whole(m.x))
		if common.Sign(way) <= 0 {
			continue
		}
		if !m.limited {
			return api.ErrProof
		}
		yields = exact.AddRat(yields, exact.MulRat(m.most, way))
	}
	if !refuses(b, lever{r, yields}) {
		return api.ErrProof
	}
	return api.OK
}

// Reserve returns the greatest weight that can be added at x, if there is one.
func Reserve(b api.Body, x int) (api.Rat, bool, api.Errno) {
	if e := CheckBody(b); e != api.OK {
		return api.Rat{}, false, e
	}
	if !common.IsPlace(x) {
		return api.Rat{}, false, api.ErrRange
	}
	levers := leversOf(b.Supports)
	if _, e := refusalOf(b, levers); e != api.OK {
		return api.Rat{}, false, e
	}
	least, limited := api.Rat{}, false
	for _, v := range levers {
		// added weight that does not go in this direction is no burden to the supports there
		way := along(v.direction, common.Whole(x))
		if common.Sign(way) <= 0 {
			continue
		}
		room := common.Over(exact.SubRat(v.yields, work(b, v.direction)), way)
		if !limited || exact.CmpRat(room, least) < 0 {
			least, limited = room, true
		}
	}
	return least, limited, api.OK
}

// A limit is the most that the support at x can carry, if that is limited.
type limit struct {
	x       int
	most    api.Rat
	limited bool
}

func limitsOf(l []api.Support) []limit {
	limits := make([]limit, 0, len(l))
	for _, s := range l {
		most, limited, _ := exact.Capacity(s.Curve)
		limits = append(limits, limit{s.X, most, limited})
	}
	return limits
}

// total returns the sum of the limits, if all of them are limited.
func total(limits []limit) (api.Rat, bool) {
	most := common.Whole(0)
	for _, m := range limits {
		if !m.limited {
			return api.Rat{}, false
		}
		most = exact.AddRat(most, m.most)
	}
	return most, true
}

// A lever is a direction A + B X that presses no support without a limit, and what the limits
// yield in it.
type lever struct {
	direction api.Refusal
	yields    api.Rat
}

// leversOf returns levers that decide about each body on the supports. By how much the work of a
// weight exceeds what a direction with a given B yields is a concave function of A that bends only
// where the turn is about a support: it is greatest there. A direction without a turn sinks all.
func leversOf(l []api.Support) []lever {
	var levers []lever
	limits := limitsOf(l)
	if most, limited := total(limits); limited {
		levers = append(levers, lever{api.Refusal{A: common.Whole(1), B: common.Whole(0)}, most})
	}
	slices.SortFunc(limits, func(m, n limit) int { return cmp.Compare(m.x, n.x) })
	aft := turns(limits, -1)
	slices.Reverse(limits)
	forward := turns(limits, 1)
	slices.Reverse(forward)
	return slices.Concat(levers, forward, aft)
}

// turns returns the levers with B = b that turn about one support each and press those that come
// before it in the list, as far as these are limited.
func turns(limits []limit, b int) []lever {
	var levers []lever
	sum, moment := api.Rat{}, api.Rat{}
	for _, m := range limits {
		direction := api.Refusal{A: common.Whole(-b * m.x), B: common.Whole(b)}
		yields := exact.AddRat(exact.MulRat(direction.A, sum), exact.MulRat(direction.B, moment))
		levers = append(levers, lever{direction, yields})
		if !m.limited {
			break
		}
		sum = exact.AddRat(sum, m.most)
		moment = exact.AddRat(moment, common.Times(m.most, m.x))
	}
	return levers
}

// refusalOf returns the first of the levers that is a refusal of the body, and its error.
func refusalOf(b api.Body, levers []lever) (api.Refusal, api.Errno) {
	for _, v := range levers {
		if !refuses(b, v) {
			continue
		}
		if common.Sign(v.direction.B) == 0 {
			return v.direction, api.ErrSink
		}
		return v.direction, api.ErrTip
	}
	return api.Refusal{}, api.OK
}

func refuses(b api.Body, v lever) bool {
	return exact.CmpRat(v.yields, work(b, v.direction)) < 0
}

// work returns what the weight of the body gives in a direction.
func work(b api.Body, r api.Refusal) api.Rat { return common.Times(along(r, b.At), b.Weight) }

// along returns A + B x.
func along(r api.Refusal, x api.Rat) api.Rat { return exact.AddRat(r.A, exact.MulRat(r.B, x)) }
