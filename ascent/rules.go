package ascent

import (
	"shotline/api"
	"shotline/check"
)

const (
	// mostFactor is all that a limit lies above the pressure around, in thousandths.
	mostFactor = 1000
	// minute is the seconds in which the speed is told.
	minute = 60
)

// rules are right rules.
type rules struct{ api.AscentRules }

// CheckRules returns ErrRange if a number is out of its range, ErrOrder if Low is greater than High.
func CheckRules(r api.AscentRules) api.Errno {
	e := check.First(
		check.Range(r.Speed, api.LeastRise, api.MaxRise),
		check.Range(r.Grid, 1, api.MaxGrid),
		check.Range(r.Step, 1, api.MaxStayStep),
		check.Range(r.Low, 0, mostFactor),
		check.Range(r.High, 0, mostFactor),
		check.Range(r.Anchor, 1, api.MaxDepth),
		check.Range(r.Fine, 0, api.MaxRefine),
	)
	if e == api.OK && r.Low > r.High {
		return api.ErrOrder
	}
	return e
}

// FactorAt returns the factor at a depth.
func FactorAt(r api.AscentRules, depth int) (int, api.Errno) {
	if e := check.First(CheckRules(r), checkDepth(depth)); e != api.OK {
		return 0, e
	}
	return rules{r}.factorAt(depth), api.OK
}

// RiseSeconds returns the seconds of a rise.
func RiseSeconds(r api.AscentRules, from, to int) (int, api.Errno) {
	if e := check.First(CheckRules(r), checkDepth(from), checkDepth(to)); e != api.OK {
		return 0, e
	}
	if to > from {
		return 0, api.ErrOrder
	}
	return rules{r}.riseSeconds(from, to), api.OK
}

// NextStop returns the next stop above a depth: ErrNone at the surface.
func NextStop(r api.AscentRules, depth int) (int, api.Errno) {
	if e := check.First(CheckRules(r), checkDepth(depth)); e != api.OK {
		return 0, e
	}
	if depth == 0 {
		return 0, api.ErrNone
	}
	return rules{r}.stopAbove(depth), api.OK
}

func (r rules) factorAt(depth int) int {
	if depth >= r.Anchor {
		return r.Low
	}
	// What is taken away is rounded up, so that the factor is rounded down.
	return r.High - dividedUp((r.High-r.Low)*depth, r.Anchor)
}

func (r rules) riseSeconds(from, to int) int {
	return dividedUp(minute*(from-to), r.Speed)
}

// stopAbove returns the next stop above a depth that is not 0.
func (r rules) stopAbove(depth int) int {
	return (depth - 1) / r.Grid * r.Grid
}

// dividedUp returns num / den, rounded up; num is at least 0, den above it.
func dividedUp(num, den int) int {
	return (num + den - 1) / den
}
