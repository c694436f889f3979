package exposure

import (
	"sort"

	"shotline/api"
	"shotline/check"
	"shotline/gas"
)

// Breaks returns all that the legs of a plan break, leg by leg, of a leg by their kinds.
func Breaks(p api.DivePlan, r api.ExposureRules) ([]api.LegBreak, api.Errno) {
	x, e := follow(p)
	if e = check.First(e, CheckRules(r)); e != api.OK {
		return nil, e
	}
	var breaks []api.LegBreak
	for leg := range x.legs() {
		for _, kind := range kindsOf(leg.on, leg.surface, leg.depths(), r) {
			breaks = append(breaks, api.LegBreak{Leg: leg.number, Kind: kind})
		}
	}
	return breaks, api.OK
}

// FirstWrong returns the number of the first leg that breaks something.
func FirstWrong(p api.DivePlan, r api.ExposureRules) (int, api.Errno) {
	breaks, e := Breaks(p, r)
	if e != api.OK {
		return 0, e
	}
	if len(breaks) == 0 {
		return 0, api.ErrNone
	}
	return breaks[0].Leg, api.OK
}

// DepthsOf returns the least and the greatest depth at which a leg that stays there on a gas breaks nothing.
func DepthsOf(g api.Gas, surface int, r api.ExposureRules) (api.Range, api.Errno) {
	if e := check.First(gas.CheckGas(g), checkSurface(surface), CheckRules(r)); e != api.OK {
		return api.Range{}, e
	}
	// All that is looked at rises with the depth, so only the poor lies above the depths that are right.
	least := sort.Search(api.MaxDepth+1, func(depth int) bool { return !isPoor(g, surface+depth, r) })
	behind := sort.Search(api.MaxDepth+1, func(depth int) bool { return len(tooDeep(g, surface, depth, r)) > 0 })
	if least >= behind {
		return api.Range{}, api.ErrNone
	}
	return api.Range{Lo: least, Hi: behind - 1}, api.OK
}

// Switches returns the numbers of the legs on another gas than that of the leg before, each with the number of its gas.
func Switches(p api.DivePlan) ([][2]int, api.Errno) {
	x, e := follow(p)
	if e != api.OK {
		return nil, e
	}
	var switches [][2]int
	var before [2]int
	for leg := range x.legs() {
		// Two numbers may be those of the same gas, so what is in it counts.
		shares := [2]int{leg.on.Oxygen, leg.on.Helium}
		if leg.number > 0 && shares != before {
			switches = append(switches, [2]int{leg.number, leg.Gas})
		}
		before = shares
	}
	return switches, api.OK
}

// kindsOf returns the kinds of what is broken on a gas between two depths.
func kindsOf(g api.Gas, surface int, depths api.Range, r api.ExposureRules) []int {
	deep := tooDeep(g, surface, depths.Hi, r)
	if isPoor(g, surface+depths.Lo, r) {
		return append([]int{api.BreakPoor}, deep...)
	}
	return deep
}

func isPoor(g api.Gas, pressure int, r api.ExposureRules) bool {
	return oxygenAt(g, pressure) < whole*r.Oxygen.Least
}

// tooDeep returns the kinds of what is broken at a depth, and at all greater ones.
func tooDeep(g api.Gas, surface, depth int, r api.ExposureRules) []int {
	var kinds []int
	add := func(kind int, broken bool) {
		if broken {
			kinds = append(kinds, kind)
		}
	}
	narcotic, _ := gas.EquivalentNarcotic(g, surface, depth)
	density, _ := gas.Density(g, surface+depth)
	add(api.BreakRich, oxygenAt(g, surface+depth) > whole*r.Oxygen.Most)
	add(api.BreakNarcotic, narcotic.Hi > r.Narcotic)
	add(api.BreakDense, density.Hi > r.Dense)
	return kinds
}
