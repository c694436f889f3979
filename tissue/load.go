package tissue

import (
	"shotline/api"
	"shotline/check"
	"shotline/gas"
)

// CheckLoads returns the error of a table, ErrShape if there are not as many loads, then the first error of one.
func CheckLoads(t []api.Compartment, l []api.TissueLoad) api.Errno {
	if e := CheckTable(t); e != api.OK {
		return e
	}
	if len(l) != len(t) {
		return api.ErrShape
	}
	return check.Each(l, checkLoad)
}

// Saturated returns the loads that hold just what is breathed of a gas at a pressure.
func Saturated(t []api.Compartment, g api.Gas, pressure int) ([]api.TissueLoad, api.Errno) {
	if e := check.First(CheckTable(t), gas.CheckGas(g), checkPressure(pressure)); e != api.OK {
		return nil, e
	}
	breathed := breathedOf(g, exactly(pressure))
	l := make([]api.TissueLoad, len(t))
	for i := range l {
		l[i] = api.TissueLoad{Nitrogen: breathed[0], Helium: breathed[1]}
	}
	return l, api.OK
}

// Inside tells whether each range of a lies in that of b.
func Inside(a, b []api.TissueLoad) (bool, api.Errno) {
	if len(a) != len(b) {
		return false, api.ErrShape
	}
	if e := check.First(check.Each(a, checkLoad), check.Each(b, checkLoad)); e != api.OK {
		return false, e
	}
	for i, l := range a {
		if !liesIn(l.Nitrogen, b[i].Nitrogen) || !liesIn(l.Helium, b[i].Helium) {
			return false, api.OK
		}
	}
	return true, api.OK
}

func checkLoad(l api.TissueLoad) api.Errno {
	for _, end := range [4]int{l.Nitrogen.Lo, l.Nitrogen.Hi, l.Helium.Lo, l.Helium.Hi} {
		if !check.Within(end, 0, api.MaxLoad) {
			return api.ErrRange
		}
	}
	if l.Nitrogen.Lo > l.Nitrogen.Hi || l.Helium.Lo > l.Helium.Hi {
		return api.ErrOrder
	}
	return api.OK
}

// breathedOf returns what is breathed of nitrogen and of helium between two pressures.
func breathedOf(g api.Gas, pressures api.Range) [2]api.Range {
	var breathed [2]api.Range
	for i, part := range inertOf(g) {
		breathed[i] = api.Range{Lo: part * (pressures.Lo - api.Vapour), Hi: part * (pressures.Hi - api.Vapour)}
	}
	return breathed
}

// endsOf returns both Lo of a load together, and both Hi.
func endsOf(l api.TissueLoad) [2]int {
	return [2]int{l.Nitrogen.Lo + l.Helium.Lo, l.Nitrogen.Hi + l.Helium.Hi}
}

func exactly(n int) api.Range {
	return api.Range{Lo: n, Hi: n}
}

func liesIn(x, y api.Range) bool {
	return y.Lo <= x.Lo && x.Hi <= y.Hi
}
