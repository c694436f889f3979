package exposure

import (
	"shotline/api"
	"shotline/check"
)

const (
	// mostOxygen is the greatest pressure of oxygen that is asked for, in millibar.
	mostOxygen = 100000
	// mostClock and mostRest are the greatest clock that rests, and the longest rest, in seconds.
	mostClock = 1000000000000
	mostRest  = 10000000
)

// RateAt returns the millionths of the allowance that a second at a pressure of oxygen costs.
func RateAt(r api.ExposureRules, oxygen int) (int, api.Errno) {
	if e := check.First(CheckRules(r), check.Range(oxygen, 0, mostOxygen)); e != api.OK {
		return 0, e
	}
	return rateAt(r.Table, whole*oxygen), api.OK
}

// OxygenOn returns the least and the greatest pressure of oxygen of a leg.
func OxygenOn(p api.DivePlan, leg int) (api.Range, api.Errno) {
	x, e := follow(p)
	if e = check.First(e, x.checkLeg(leg)); e != api.OK {
		return api.Range{}, e
	}
	o := x.leg(leg).oxygen()
	return api.Range{Lo: o.Lo / whole, Hi: dividedUp(o.Hi, whole)}, api.OK
}

// ClockOf returns what each leg costs of the allowance.
func ClockOf(p api.DivePlan, r api.ExposureRules) ([]int, api.Errno) {
	x, e := follow(p)
	if e = check.First(e, CheckRules(r)); e != api.OK {
		return nil, e
	}
	var clocks []int
	for leg := range x.legs() {
		clocks = append(clocks, leg.clock(r.Table))
	}
	return clocks, api.OK
}

// Rested returns what is left of a clock behind some seconds at the surface.
func Rested(clock, seconds int) (int, api.Errno) {
	if e := check.First(check.Range(clock, 0, mostClock), check.Range(seconds, 0, mostRest)); e != api.OK {
		return 0, e
	}
	for range seconds / api.HalfClock {
		clock = dividedUp(clock, 2)
	}
	return clock, api.OK
}

// rateAt returns the rate of a pressure of oxygen in thousandths of a millibar.
func rateAt(t []api.OxygenRow, oxygen int) int {
	rate := 0
	for _, row := range t {
		if whole*row.From <= oxygen {
			rate = row.Rate
		}
	}
	return rate
}

// oxygen returns the least and the greatest pressure of oxygen of a leg, in thousandths of a millibar.
func (l planLeg) oxygen() api.Range {
	d := l.depths()
	return api.Range{Lo: oxygenAt(l.on, l.surface+d.Lo), Hi: oxygenAt(l.on, l.surface+d.Hi)}
}

// clock returns what a leg costs by a table.
func (l planLeg) clock(t []api.OxygenRow) int {
	o := l.oxygen()
	if o.Lo == o.Hi {
		return l.Seconds * rateAt(t, o.Lo)
	}
	// The pressure goes evenly, so a row has as much of the time as it has of the pressures.
	sum := 0
	for i, row := range t {
		to := o.Hi
		if i+1 < len(t) {
			to = min(to, whole*t[i+1].From)
		}
		sum += row.Rate * max(0, to-max(o.Lo, whole*row.From))
	}
	return dividedUp(l.Seconds*sum, o.Hi-o.Lo)
}
