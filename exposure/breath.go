package exposure

import (
	"shotline/api"
	"shotline/check"
)

// perBreath divides a breath times two pressures times seconds: two pressures, a minute, and the millilitres of a litre.
const perBreath = 2 * 60 * 1000

// LegBreath returns what a leg breathes.
func LegBreath(p api.DivePlan, leg, breath int) (int, api.Errno) {
	x, e := follow(p)
	if e = check.First(e, x.checkLeg(leg), checkBreath(breath)); e != api.OK {
		return 0, e
	}
	return x.leg(leg).breathed(breath), api.OK
}

// Consumed returns what is breathed of each gas.
func Consumed(p api.DivePlan, breath int) ([]int, api.Errno) {
	x, e := follow(p)
	if e = check.First(e, checkBreath(breath)); e != api.OK {
		return nil, e
	}
	amounts := make([]int, len(x.Gases))
	for leg := range x.legs() {
		amounts[leg.Gas] += leg.breathed(breath)
	}
	return amounts, api.OK
}

// ConsumedAt returns what is breathed of each gas up to a second.
func ConsumedAt(p api.DivePlan, breath, second int) ([]int, api.Errno) {
	x, e := follow(p)
	if e = check.First(e, checkBreath(breath), x.checkTrace(), x.checkSecond(second)); e != api.OK {
		return nil, e
	}
	amounts := make([]int, len(x.Gases))
	for leg := range x.legs() {
		if leg.begin.Second >= second {
			break
		}
		amounts[leg.Gas] += leg.breathedIn(breath, min(leg.Seconds, second-leg.begin.Second))
	}
	return amounts, api.OK
}

// breathed returns what a leg breathes.
func (l planLeg) breathed(breath int) int {
	first, last := l.pressures()
	return dividedUp(breath*(first+last)*l.Seconds, perBreath)
}

// breathedIn returns what a leg of a plan that is short enough to be looked at second by second breathes in its first
// seconds; of a longer plan the product would be too large.
func (l planLeg) breathedIn(breath, seconds int) int {
	first, last := l.pressures()
	// The pressure behind the seconds need not be whole, so the sum of both is in parts of it.
	parts := 2*first*l.Seconds + (last-first)*seconds
	return dividedUp(breath*parts*seconds, perBreath*l.Seconds)
}
