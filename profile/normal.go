package profile

import (
	"cmp"
	"slices"

	"shotline/api"
)

// Normal returns the normal form of a plan.
func Normal(p api.DivePlan) (api.DivePlan, api.Errno) {
	if _, e := CheckPlan(p); e != api.OK {
		return api.DivePlan{}, e
	}
	x := api.DivePlan{Name: p.Name, Surface: p.Surface, Gases: usedGases(p)}
	for _, leg := range p.Legs {
		leg.Gas = slices.Index(x.Gases, p.Gases[leg.Gas])
		x.Legs = joined(x.Legs, leg)
	}
	return x, api.OK
}

// SameDive tells whether the normal forms of two plans are the same but for the name.
func SameDive(a, b api.DivePlan) (bool, api.Errno) {
	x, e := Normal(a)
	if e != api.OK {
		return false, e
	}
	y, e := Normal(b)
	if e != api.OK {
		return false, e
	}
	return x.Surface == y.Surface && slices.Equal(x.Gases, y.Gases) && slices.Equal(x.Legs, y.Legs), api.OK
}

// FirstDiffer returns the first whole second at which two plans differ.
func FirstDiffer(a, b api.DivePlan) (int, api.Errno) {
	x, e := PointsOf(a)
	if e != api.OK {
		return 0, e
	}
	y, e := PointsOf(b)
	if e != api.OK {
		return 0, e
	}
	differ := func(second int) bool {
		if second > endOf(x) || second > endOf(y) {
			return true
		}
		here, there := depthOn(x, second), depthOn(y, second)
		return here.less(there) || there.less(here) || gasOn(a, x, second) != gasOn(b, y, second)
	}
	points := slices.Concat(x, y)
	slices.SortFunc(points, func(p, q api.DivePoint) int { return cmp.Compare(p.Second, q.Second) })
	// Between two points both go evenly, each on one gas: if they are the same at the first one, and
	// a second later, they are the same up to the other one.
	for _, p := range points {
		if p.Second < endOf(points) && differ(p.Second+1) {
			return p.Second + 1, api.OK
		}
	}
	return 0, api.ErrNone
}

// gasOn returns the gas of a plan with these points at a second.
func gasOn(p api.DivePlan, points []api.DivePoint, second int) api.Gas {
	return p.Gases[p.Legs[legAt(points, second)].Gas]
}

// usedGases returns the gases of the legs of a plan, in the order in which they are first used.
func usedGases(p api.DivePlan) []api.Gas {
	if len(p.Legs) == 0 {
		return []api.Gas{p.Gases[0]}
	}
	var used []api.Gas
	for _, leg := range p.Legs {
		if g := p.Gases[leg.Gas]; !slices.Contains(used, g) {
			used = append(used, g)
		}
	}
	return used
}

// joined returns legs of different gases with one more leg, which becomes one with the last of them if it goes on
// like this one.
func joined(legs []api.DiveLeg, leg api.DiveLeg) []api.DiveLeg {
	if len(legs) == 0 {
		return append(legs, leg)
	}
	last := &legs[len(legs)-1]
	begin := 0
	if len(legs) > 1 {
		begin = legs[len(legs)-2].Depth
	}
	if last.Gas != leg.Gas || (last.Depth-begin)*leg.Seconds != (leg.Depth-last.Depth)*last.Seconds {
		return append(legs, leg)
	}
	last.Seconds += leg.Seconds
	last.Depth = leg.Depth
	return legs
}

// withLegs returns a plan with other legs, in memory of its own.
func withLegs(p api.DivePlan, legs ...[]api.DiveLeg) api.DivePlan {
	p.Gases = slices.Clone(p.Gases)
	p.Legs = slices.Concat(legs...)
	return p
}
