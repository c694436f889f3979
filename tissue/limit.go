package tissue

import (
	"shotline/api"
	"shotline/check"
)

// LimitAt returns 1000 times the limit of a compartment at a pressure with a factor.
func LimitAt(c api.Compartment, pressure, factor int) (api.Range, api.Errno) {
	if e := check.First(checkCompartment(c), checkPressure(pressure), checkFactor(factor)); e != api.OK {
		return api.Range{}, e
	}
	return divide(limitOf(c, factor).at(pressure), whole), api.OK
}

// KeptAt returns whether loads keep the limits at the pressure at[0] with the factor at[1].
func KeptAt(t []api.Compartment, l []api.TissueLoad, at [2]int) (int, api.Errno) {
	if e := check.First(CheckLoads(t, l), checkPressure(at[0]), checkFactor(at[1])); e != api.OK {
		return 0, e
	}
	return keptAt(t, l, at[0], at[1]), api.OK
}

// Ceiling returns the least pressures at which loads do not surely break the limits, and at which they surely keep them.
func Ceiling(t []api.Compartment, l []api.TissueLoad, factor int) (api.Range, api.Errno) {
	if e := check.First(CheckLoads(t, l), checkFactor(factor)); e != api.OK {
		return api.Range{}, e
	}
	var ceiling api.Range
	for i, c := range t {
		limit, ends := limitOf(c, factor), endsOf(l[i])
		ceiling.Lo = max(ceiling.Lo, limit.least(ends[0]))
		ceiling.Hi = max(ceiling.Hi, limit.least(ends[1]))
	}
	return ceiling, api.OK
}

// limitLine is the limit of a compartment with a factor, a line over pressures, in millionths of a millibar.
type limitLine struct{ base, slope int }

func limitOf(c api.Compartment, factor int) limitLine {
	return limitLine{base: factor * whole * c.Base, slope: whole*whole + factor*(c.Slope-whole)}
}

func (x limitLine) at(pressure int) int {
	return x.base + x.slope*pressure
}

// allows tells whether a load, in thousandths of a millibar, is within the limit at a pressure.
func (x limitLine) allows(load, pressure int) bool {
	return whole*load <= x.at(pressure)
}

// least returns the least whole pressure at which a load is within the limit.
func (x limitLine) least(load int) int {
	return divide(max(0, whole*load-x.base), x.slope).Hi
}

// keptAt returns whether right loads keep the limits at a pressure with a factor.
func keptAt(t []api.Compartment, l []api.TissueLoad, pressure, factor int) int {
	answer := api.AnswerYes
	for i, c := range t {
		limit, ends := limitOf(c, factor), endsOf(l[i])
		if !limit.allows(ends[0], pressure) {
			return api.AnswerNo
		}
		if !limit.allows(ends[1], pressure) {
			answer = api.AnswerMaybe
		}
	}
	return answer
}
