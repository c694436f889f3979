package mix

import (
	"slices"

	"shotline/api"
	"shotline/check"
)

// The least and the greatest factor, in thousandths.
const (
	leastFactor = 500
	mostFactor  = 2000
)

// CheckFactors returns the error of a table of factors.
func CheckFactors(t []api.MixFactor) api.Errno {
	switch {
	case len(t) == 0:
		return api.ErrShape
	case len(t) > api.MaxFactors:
		return api.ErrLarge
	}
	before := -1
	return check.Each(t, func(row api.MixFactor) api.Errno {
		e := check.First(
			check.Range(row.Pressure, 0, api.MaxPressure),
			check.Range(row.Factor.Lo, leastFactor, mostFactor),
			check.Range(row.Factor.Hi, leastFactor, mostFactor),
		)
		if e == api.OK && (row.Factor.Lo > row.Factor.Hi || row.Pressure <= before) {
			e = api.ErrOrder
		}
		before = row.Pressure
		return e
	})
}

// FactorAt returns the factor at a pressure.
func FactorAt(t []api.MixFactor, pressure int) (api.Range, api.Errno) {
	if e := CheckFactors(t); e != api.OK {
		return api.Range{}, e
	}
	if e := check.Range(pressure, t[0].Pressure, t[len(t)-1].Pressure); e != api.OK {
		return api.Range{}, e
	}
	i := slices.IndexFunc(t, func(row api.MixFactor) bool { return row.Pressure >= pressure })
	if t[i].Pressure == pressure {
		return t[i].Factor, api.OK
	}
	return between(t[i-1], t[i], pressure), api.OK
}

// RealAmount returns a range that contains the real amounts at the ends of a range of pressures.
func RealAmount(t []api.MixFactor, pressure api.Range, volume int) (api.Range, api.Errno) {
	if e := CheckFactors(t); e != api.OK {
		return api.Range{}, e
	}
	if pressure.Lo > pressure.Hi {
		return api.Range{}, api.ErrOrder
	}
	first, e := FactorAt(t, pressure.Lo)
	last, e2 := FactorAt(t, pressure.Hi)
	if e := check.First(e, e2, check.Range(volume, 1, api.MaxVolume)); e != api.OK {
		return api.Range{}, e
	}
	// A greater pressure may have the lesser amount, where factors rise faster than pressures.
	low, high := amountsAt(pressure.Lo, volume, first), amountsAt(pressure.Hi, volume, last)
	return api.Range{Lo: min(low.Lo, high.Lo), Hi: max(low.Hi, high.Hi)}, api.OK
}

// between returns the factor at a pressure between two rows.
func between(a, b api.MixFactor, pressure int) api.Range {
	mean := func(first, last int) ratio {
		return ratio{first*(b.Pressure-pressure) + last*(pressure-a.Pressure), b.Pressure - a.Pressure}
	}
	return api.Range{Lo: mean(a.Factor.Lo, b.Factor.Lo).down(), Hi: mean(a.Factor.Hi, b.Factor.Hi).up()}
}

// amountsAt returns the range of the real amounts at a pressure with any factor of a range.
func amountsAt(pressure, volume int, factor api.Range) api.Range {
	return api.Range{Lo: ratio{pressure * volume, factor.Hi}.down(), Hi: ratio{pressure * volume, factor.Lo}.up()}
}
