package tissue

import (
	"shotline/api"
	"shotline/check"
	"shotline/gas"
)

// restLevel is the level of the roots of a rest.
const restLevel = 20

// CheckLeg returns the error of a leg: ErrZero if it has no time to change the pressure.
func CheckLeg(x api.TissueLeg) api.Errno {
	if e := check.First(checkPressure(x.From), checkPressure(x.To), check.Range(x.Seconds, 0, api.MaxHalf), gas.CheckGas(x.Gas)); e != api.OK {
		return e
	}
	if x.Seconds == 0 && x.From != x.To {
		return api.ErrZero
	}
	return api.OK
}

// Loaded returns the loads behind a leg.
func Loaded(t []api.Compartment, l []api.TissueLoad, x api.TissueLeg, fine int) ([]api.TissueLoad, api.Errno) {
	if e := check.First(CheckLoads(t, l), CheckLeg(x), checkFine(fine)); e != api.OK {
		return nil, e
	}
	return course{x, t, fine}.end(l), api.OK
}

// Followed returns the loads behind each of several legs, one after the other.
func Followed(t []api.Compartment, l []api.TissueLoad, legs []api.TissueLeg, fine int) ([][]api.TissueLoad, api.Errno) {
	if e := check.First(CheckLoads(t, l), checkLegs(legs), checkFine(fine)); e != api.OK {
		return nil, e
	}
	var behind [][]api.TissueLoad
	for _, x := range legs {
		l = course{x, t, fine}.end(l)
		behind = append(behind, l)
	}
	return behind, api.OK
}

// Rested returns the loads behind some seconds at the pressure of the surface, on air.
func Rested(t []api.Compartment, l []api.TissueLoad, surface, seconds int) ([]api.TissueLoad, api.Errno) {
	if e := check.First(CheckLoads(t, l), checkSurface(surface), check.Range(seconds, 0, api.MaxSecond)); e != api.OK {
		return nil, e
	}
	breathed := breathedOf(api.Gas{Oxygen: api.AirOxygen}, exactly(surface))
	return behindStep(l, breathed, decaysOf(t, seconds, rootsTo(restLevel))), api.OK
}

// LegsOf returns the legs of a plan, one for each.
func LegsOf(p api.DivePlan) ([]api.TissueLeg, api.Errno) {
	if e := checkPlan(p); e != api.OK {
		return nil, e
	}
	var legs []api.TissueLeg
	depth := 0
	for _, x := range p.Legs {
		if e := checkDiveLeg(x, depth, len(p.Gases)); e != api.OK {
			return nil, e
		}
		from, _ := gas.PressureAt(p.Surface, depth)
		to, _ := gas.PressureAt(p.Surface, x.Depth)
		legs = append(legs, api.TissueLeg{From: from, To: to, Seconds: x.Seconds, Gas: p.Gases[x.Gas]})
		depth = x.Depth
	}
	return legs, api.OK
}

func checkLegs(legs []api.TissueLeg) api.Errno {
	if len(legs) > api.MaxTissueLegs {
		return api.ErrLarge
	}
	return check.Each(legs, CheckLeg)
}

// checkPlan returns the error of a plan but for those of its legs.
func checkPlan(p api.DivePlan) api.Errno {
	if e := checkSurface(p.Surface); e != api.OK {
		return e
	}
	if len(p.Gases) > api.MaxGases {
		return api.ErrLarge
	}
	if e := check.Each(p.Gases, gas.CheckGas); e != api.OK {
		return e
	}
	if len(p.Legs) > api.MaxLegs {
		return api.ErrLarge
	}
	return api.OK
}

// checkDiveLeg returns the error of a leg of a plan that begins at a depth, with so many gases.
func checkDiveLeg(x api.DiveLeg, depth, gases int) api.Errno {
	switch {
	case !check.Within(x.Seconds, 0, api.MaxHalf) || !check.Within(x.Depth, 0, api.MaxDepth):
		return api.ErrRange
	case !check.Within(x.Gas, 0, gases-1):
		return api.ErrMissing
	case x.Seconds == 0 && x.Depth != depth:
		return api.ErrZero
	}
	return api.OK
}
