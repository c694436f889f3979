package exposure

import (
	"iter"

	"shotline/api"
	"shotline/check"
)

// perPause divides an emergency times a pressure times seconds: a minute, and the millilitres of a litre.
const perPause = 60 * 1000

// EscapeFrom returns what the escape from a depth needs.
func EscapeFrom(r api.ExposureRules, surface, depth int) (int, api.Errno) {
	if e := check.First(CheckRules(r), checkSurface(surface), check.Range(depth, 0, api.MaxDepth)); e != api.OK {
		return 0, e
	}
	return escape(r, surface, depth), api.OK
}

// NeedAt returns the number of the gas at a second, and how much of it is needed.
func NeedAt(p api.DivePlan, r api.ExposureRules, second int) (int, int, api.Errno) {
	x, e := follow(p)
	if e = check.First(e, CheckRules(r), x.checkTrace(), x.checkSecond(second)); e != api.OK {
		return 0, 0, e
	}
	for number, need := range x.needs(r, second) {
		return number, need.Amount, api.OK
	}
	return 0, 0, api.ErrNone
}

// Reserves returns for each gas the greatest amount that is needed, and the first second at which it is.
func Reserves(p api.DivePlan, r api.ExposureRules) ([]api.GasNeed, api.Errno) {
	x, e := follow(p)
	if e = check.First(e, CheckRules(r), x.checkTrace()); e != api.OK {
		return nil, e
	}
	var reserves []api.GasNeed
	for range x.Gases {
		reserves = append(reserves, api.GasNeed{Second: -1})
	}
	for number, need := range x.needs(r, 0) {
		if need.Amount > reserves[number].Amount {
			reserves[number] = need
		}
	}
	return reserves, api.OK
}

// Survives returns the end of a plan, or beside ErrBreak the first second at which more is needed than is there.
func Survives(p api.DivePlan, r api.ExposureRules, amounts []int) (int, api.Errno) {
	x, e := followWith(p, r, amounts)
	if e != api.OK {
		return 0, e
	}
	if second, short := x.firstShort(r, amounts); short {
		return second, api.ErrBreak
	}
	return x.end, api.OK
}

// LastTurn returns the last second up to which no more is needed than is there.
func LastTurn(p api.DivePlan, r api.ExposureRules, amounts []int) (int, api.Errno) {
	x, e := followWith(p, r, amounts)
	if e != api.OK {
		return 0, e
	}
	second, short := x.firstShort(r, amounts)
	switch {
	case !short:
		return x.end, api.OK
	case second == 0:
		return 0, api.ErrNone
	}
	return second - 1, api.OK
}

// followWith returns a plan whose seconds are looked at with rules and amounts, or the first error of them.
func followWith(p api.DivePlan, r api.ExposureRules, amounts []int) (followed, api.Errno) {
	x, e := follow(p)
	return x, check.First(e, CheckRules(r), x.checkAmounts(amounts), x.checkTrace())
}

func (x followed) checkAmounts(amounts []int) api.Errno {
	if len(amounts) != len(x.Gases) {
		return api.ErrShape
	}
	return check.Each(amounts, func(amount int) api.Errno { return check.Range(amount, 0, api.MaxAmount) })
}

// firstShort returns the first second at which more is needed than is there, if there is one.
func (x followed) firstShort(r api.ExposureRules, amounts []int) (int, bool) {
	for number, need := range x.needs(r, 0) {
		if need.Amount > amounts[number] {
			return need.Second, true
		}
	}
	return 0, false
}

// needs yields, second by second from one of a plan to its end, the number of the gas there and how much of it is needed.
func (x followed) needs(r api.ExposureRules, second int) iter.Seq2[int, api.GasNeed] {
	return func(yield func(int, api.GasNeed) bool) {
		at, before := second, make([]int, len(x.Gases))
		for leg := range x.legs() {
			for ; at <= leg.begin.Second+leg.Seconds; at++ {
				amount := before[leg.Gas] + leg.needIn(r, at-leg.begin.Second)
				if !yield(leg.Gas, api.GasNeed{Amount: amount, Second: at}) {
					return
				}
			}
			before[leg.Gas] += leg.breathed(r.Breath)
		}
	}
}

// needIn returns what a leg breathes in its first seconds, and the escape from where it is then.
func (l planLeg) needIn(r api.ExposureRules, seconds int) int {
	depth := dividedUp(l.begin.Depth*(l.Seconds-seconds)+l.Depth*seconds, l.Seconds)
	return l.breathedIn(r.Breath, seconds) + escape(r, l.surface, depth)
}

// escape returns what the escape from a right depth needs.
func escape(r api.ExposureRules, surface, depth int) int {
	// On the way up the mean pressure is half of what both ends have together, for 60 depth / Ascent seconds.
	pause := (surface + depth) * r.Pause * r.Ascent
	ascent := (2*surface + depth) * 30 * depth
	return dividedUp(r.Emergency*(pause+ascent), perPause*r.Ascent)
}
