package profile

import (
	"shotline/api"
	"shotline/gas"
)

// CheckPlan returns the error of a plan, with the number of the leg whose error it is.
func CheckPlan(p api.DivePlan) (int, api.Errno) {
	if !isName(p.Name) {
		return 0, api.ErrName
	}
	if !within(p.Surface, api.LeastAir, api.MostAir) {
		return 0, api.ErrRange
	}
	if e := checkGases(p.Gases); e != api.OK {
		return 0, e
	}
	return checkLegs(p.Legs, len(p.Gases))
}

// PlanSeconds returns the second at which a plan ends.
func PlanSeconds(p api.DivePlan) (int, api.Errno) {
	points, e := PointsOf(p)
	if e != api.OK {
		return 0, e
	}
	return endOf(points), api.OK
}

// Before returns a plan up to a second.
func Before(p api.DivePlan, second int) (api.DivePlan, api.Errno) {
	points, e := pointsTo(p, second)
	if e != api.OK {
		return api.DivePlan{}, e
	}
	depth := depthOn(points, second)
	if !depth.isWhole() {
		return api.DivePlan{}, api.ErrForm
	}
	var legs []api.DiveLeg
	for i, leg := range p.Legs {
		begin, end := points[i].Second, points[i+1].Second
		if begin >= second {
			break
		}
		if end > second {
			leg.Seconds, leg.Depth = second-begin, depth.rounded().Lo
		}
		legs = append(legs, leg)
	}
	return withLegs(p, legs), api.OK
}

// Extended returns a plan with more legs behind its own.
func Extended(p api.DivePlan, legs []api.DiveLeg) (api.DivePlan, api.Errno) {
	if _, e := CheckPlan(p); e != api.OK {
		return api.DivePlan{}, e
	}
	x := withLegs(p, p.Legs, legs)
	if _, e := CheckPlan(x); e != api.OK {
		return api.DivePlan{}, e
	}
	return x, api.OK
}

func checkGases(l []api.Gas) api.Errno {
	if len(l) == 0 {
		return api.ErrShape
	}
	if len(l) > api.MaxGases {
		return api.ErrLarge
	}
	for _, g := range l {
		if e := gas.CheckGas(g); e != api.OK {
			return e
		}
	}
	return api.OK
}

func checkLegs(l []api.DiveLeg, gases int) (int, api.Errno) {
	if len(l) > api.MaxLegs {
		return 0, api.ErrLarge
	}
	end := 0
	for i, leg := range l {
		if !within(leg.Seconds, 1, api.MaxSecond) || !isDepth(leg.Depth) {
			return i, api.ErrRange
		}
		if !within(leg.Gas, 0, gases-1) {
			return i, api.ErrMissing
		}
		end += leg.Seconds
		if end > api.MaxSecond {
			return i, api.ErrLarge
		}
	}
	return 0, api.OK
}
