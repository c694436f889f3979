package gas

import "shotline/api"

// aimAt is an aim with the pressure at its depth.
type aimAt struct {
	api.GasAim
	pressure int
}

// BestGas returns a gas with the least helium of all that meet an aim, of these the one with the most oxygen.
func BestGas(a api.GasAim) (api.Gas, api.Errno) {
	if e := checkAim(a); e != api.OK {
		return api.Gas{}, e
	}
	x := withPressure(a)
	helium := max(0, whole-whole*x.narcoticPressure()/x.pressure)
	oxygen := min(whole*x.Oxygen.Most/x.pressure, whole-helium)
	// More helium leaves less room for oxygen, so where this gas fails no other one meets the aim.
	best := api.Gas{Oxygen: oxygen, Helium: helium}
	if !x.metBy(best) {
		return api.Gas{}, api.ErrNone
	}
	return best, api.OK
}

// Richest returns the number of the gas with the most oxygen of those that meet an aim.
func Richest(l []api.Gas, a api.GasAim) (int, api.Errno) {
	if e := firstOf(checkGases(l), checkAim(a)); e != api.OK {
		return 0, e
	}
	x := withPressure(a)
	best := -1
	richer := func(g api.Gas) bool {
		return best < 0 || g.Oxygen > l[best].Oxygen || g.Oxygen == l[best].Oxygen && g.Helium < l[best].Helium
	}
	for i, g := range l {
		if x.metBy(g) && richer(g) {
			best = i
		}
	}
	if best < 0 {
		return 0, api.ErrNone
	}
	return best, api.OK
}

// FirstGap returns the least depth of a range at which none of the gases may be breathed.
func FirstGap(l []api.Gas, surface int, o api.OxygenLimits, depths api.Range) (int, api.Errno) {
	if e := firstOf(checkGases(l), checkSurface(surface), CheckLimits(o), checkDepths(depths)); e != api.OK {
		return 0, e
	}
	// breathedTo returns the last depth of a gas that may be breathed at a depth.
	breathedTo := func(depth int) (int, bool) {
		for _, g := range l {
			if r, e := DepthsFor(g, surface, o); e == api.OK && within(depth, r.Lo, r.Hi) {
				return r.Hi, true
			}
		}
		return 0, false
	}
	for depth := depths.Lo; depth <= depths.Hi; {
		last, ok := breathedTo(depth)
		if !ok {
			return depth, api.OK
		}
		depth = last + 1
	}
	return 0, api.ErrNone
}

// withPressure returns a right aim with the pressure at its depth.
func withPressure(a api.GasAim) aimAt {
	return aimAt{GasAim: a, pressure: a.Surface + a.Depth}
}

// narcoticPressure returns the pressure at the greatest narcotic depth.
func (x aimAt) narcoticPressure() int {
	return x.Surface + x.Narcotic
}

// metBy compares products, because a rounded depth would let a gas pass that is a little too narcotic.
func (x aimAt) metBy(g api.Gas) bool {
	return within(g.Oxygen*x.pressure, whole*x.Oxygen.Least, whole*x.Oxygen.Most) &&
		(whole-g.Helium)*x.pressure <= whole*x.narcoticPressure()
}

func checkAim(a api.GasAim) api.Errno {
	return firstOf(checkSurface(a.Surface), checkDepth(a.Depth), CheckLimits(a.Oxygen), checkDepth(a.Narcotic))
}

func checkGases(l []api.Gas) api.Errno {
	if len(l) > api.MaxGases {
		return api.ErrLarge
	}
	for _, g := range l {
		if e := CheckGas(g); e != api.OK {
			return e
		}
	}
	return api.OK
}

func checkDepths(r api.Range) api.Errno {
	if e := firstOf(checkDepth(r.Lo), checkDepth(r.Hi)); e != api.OK {
		return e
	}
	if r.Lo > r.Hi {
		return api.ErrOrder
	}
	return api.OK
}
