package gas

import "shotline/api"

// CheckLimits returns ErrRange if a limit is not from 1 to MaxOxygen, ErrOrder if Least is greater than Most.
func CheckLimits(l api.OxygenLimits) api.Errno {
	if e := firstOf(checkRange(l.Least, 1, api.MaxOxygen), checkRange(l.Most, 1, api.MaxOxygen)); e != api.OK {
		return e
	}
	if l.Least > l.Most {
		return api.ErrOrder
	}
	return api.OK
}

// DepthsFor returns the least and the greatest depth at which a gas may be breathed.
func DepthsFor(g api.Gas, surface int, l api.OxygenLimits) (api.Range, api.Errno) {
	if e := firstOf(CheckGas(g), checkSurface(surface), CheckLimits(l)); e != api.OK {
		return api.Range{}, e
	}
	if g.Oxygen == 0 {
		return api.Range{}, api.ErrNone
	}
	least := enclose(whole*l.Least, g.Oxygen).Hi
	most := enclose(whole*l.Most, g.Oxygen).Lo
	r := api.Range{Lo: max(0, least-surface), Hi: min(api.MaxDepth, most-surface)}
	if r.Lo > r.Hi {
		return api.Range{}, api.ErrNone
	}
	return r, api.OK
}

// EquivalentAir returns the equivalent air depth of a gas at a depth.
func EquivalentAir(g api.Gas, surface, depth int) (api.Range, api.Errno) {
	if e := firstOf(CheckGas(g), checkSurface(surface), checkDepth(depth)); e != api.OK {
		return api.Range{}, e
	}
	ofAir := nitrogenOf(api.Gas{Oxygen: api.AirOxygen})
	return depthsAt(enclose(nitrogenOf(g)*(surface+depth), ofAir), surface), api.OK
}

// EquivalentNarcotic returns the equivalent narcotic depth of a gas at a depth.
func EquivalentNarcotic(g api.Gas, surface, depth int) (api.Range, api.Errno) {
	if e := firstOf(CheckGas(g), checkSurface(surface), checkDepth(depth)); e != api.OK {
		return api.Range{}, e
	}
	return depthsAt(enclose((whole-g.Helium)*(surface+depth), whole), surface), api.OK
}

// depthsAt returns the depths with these pressures, 0 where it would be above the surface.
func depthsAt(pressures api.Range, surface int) api.Range {
	return api.Range{Lo: max(0, pressures.Lo-surface), Hi: max(0, pressures.Hi-surface)}
}
