package mix

import (
	"shotline/api"
	"shotline/check"
	"shotline/gas"
)

// The limits of tasks, plans and proofs.
const (
	mostCents  = 1000
	mostDen    = 1000000
	mostWhole  = 10000000000
	mostWeight = 10000000
)

// asked is a right task with what it asks its sources for: an amount, and the oxygen and the helium in it, in thousandths of
// the unit of amounts.
type asked struct {
	api.MixTask
	amount                 int
	oxygenNeed, heliumNeed api.Range
}

// CheckTask returns the error of a task.
func CheckTask(t api.MixTask) api.Errno {
	switch {
	case len(t.Sources) == 0:
		return api.ErrShape
	case len(t.Sources) > api.MaxSources:
		return api.ErrLarge
	}
	nameOf := func(s api.MixSource) string { return s.Name }
	return check.First(
		check.Named(t.Sources, nameOf, checkSource),
		checkContent(t.Begin),
		check.Range(t.Total, max(1, sumOf(t.Begin)), api.MaxFillTotal),
		checkShares(t.Oxygen),
		checkShares(t.Helium),
	)
}

// CheckPlan returns the cost of a plan that meets a task.
func CheckPlan(t api.MixTask, p api.MixPlan) (int, api.Errno) {
	x, e := askFor(t)
	if e != api.OK {
		return 0, e
	}
	return x.costOf(p)
}

// CheckProof returns the value of a proof.
func CheckProof(t api.MixTask, p api.MixProof) (int, api.Errno) {
	x, e := askFor(t)
	if e = check.First(e, checkWeights(p)); e != api.OK {
		return 0, e
	}
	return x.value(p, p.Den), api.OK
}

// CheckRefusal returns the value of a proof at the price 0, if the proof refuses.
func CheckRefusal(t api.MixTask, p api.MixProof) (int, api.Errno) {
	x, e := askFor(t)
	if e = check.First(e, checkWeights(p)); e != api.OK {
		return 0, e
	}
	value := x.value(p, 0)
	if value <= 0 {
		return 0, api.ErrProof
	}
	return value, api.OK
}

// Compare returns -1, 0 or 1 as a plan costs less than the value of a proof, as much, or more.
func Compare(t api.MixTask, x api.MixPlan, p api.MixProof) (int, api.Errno) {
	cost, e := CheckPlan(t, x)
	value, e2 := CheckProof(t, p)
	if e := check.First(e, e2); e != api.OK {
		return 0, e
	}
	return ratio{cost, x.Den}.compare(ratio{value, p.Den}), api.OK
}

func checkSource(s api.MixSource) api.Errno {
	return check.First(gas.CheckGas(s.Gas), check.Range(s.Cents, 0, mostCents), check.Range(s.Amount, 0, api.MaxFillTotal))
}

// checkShares returns the error of a range of thousandths.
func checkShares(r api.Range) api.Errno {
	if e := check.First(check.Range(r.Lo, 0, whole), check.Range(r.Hi, 0, whole)); e != api.OK {
		return e
	}
	if r.Lo > r.Hi {
		return api.ErrOrder
	}
	return api.OK
}

func checkWeights(p api.MixProof) api.Errno {
	return check.First(
		check.Range(p.Den, 1, mostDen),
		check.Range(p.Whole, -mostWhole, mostWhole),
		check.Range(p.OxygenLow, 0, mostWeight),
		check.Range(p.OxygenHigh, 0, mostWeight),
		check.Range(p.HeliumLow, 0, mostWeight),
		check.Range(p.HeliumHigh, 0, mostWeight),
	)
}

// askFor returns a task with what it asks for, or its error. It shares the memory of the task.
func askFor(t api.MixTask) (asked, api.Errno) {
	if e := CheckTask(t); e != api.OK {
		return asked{}, e
	}
	need := func(shares api.Range, there int) api.Range {
		return api.Range{Lo: shares.Lo*t.Total - whole*there, Hi: shares.Hi*t.Total - whole*there}
	}
	return asked{t, t.Total - sumOf(t.Begin), need(t.Oxygen, t.Begin.Oxygen), need(t.Helium, t.Begin.Helium)}, api.OK
}

// costOf returns the cost of a plan that meets the task.
func (x asked) costOf(p api.MixPlan) (int, api.Errno) {
	if len(p.Parts) != len(x.Sources) {
		return 0, api.ErrShape
	}
	if e := check.Range(p.Den, 1, mostDen); e != api.OK {
		return 0, e
	}
	var amount, oxygen, helium, cost int
	for i, s := range x.Sources {
		part := p.Parts[i]
		if !check.Within(part, 0, p.Den*s.Amount) {
			return 0, api.ErrStock
		}
		amount, cost = amount+part, cost+part*s.Cents
		oxygen, helium = oxygen+part*s.Gas.Oxygen, helium+part*s.Gas.Helium
	}
	switch {
	case amount != p.Den*x.amount:
		return 0, api.ErrSum
	case !isWithin(oxygen, p.Den, x.oxygenNeed), !isWithin(helium, p.Den, x.heliumNeed):
		return 0, api.ErrBreak
	}
	return cost, api.OK
}

// isWithin tells whether n / den is within a range.
func isWithin(n, den int, r api.Range) bool {
	return check.Within(n, den*r.Lo, den*r.Hi)
}

// value returns the value of a proof at den times the prices of the sources: its own Den is for these prices, 0 for none.
func (x asked) value(p api.MixProof, den int) int {
	value := p.Whole*x.amount + p.OxygenLow*x.oxygenNeed.Lo - p.OxygenHigh*x.oxygenNeed.Hi + p.HeliumLow*x.heliumNeed.Lo - p.HeliumHigh*x.heliumNeed.Hi
	for _, s := range x.Sources {
		yield := p.Whole + s.Gas.Oxygen*(p.OxygenLow-p.OxygenHigh) + s.Gas.Helium*(p.HeliumLow-p.HeliumHigh)
		value -= s.Amount * max(0, yield-den*s.Cents)
	}
	return value
}
