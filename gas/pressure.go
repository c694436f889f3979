package gas

import "shotline/api"

// mostPressure is the greatest pressure of a gas that is breathed, in millibar.
const mostPressure = 100000

// PressureAt returns the pressure at a depth.
func PressureAt(surface, depth int) (int, api.Errno) {
	if e := firstOf(checkSurface(surface), checkDepth(depth)); e != api.OK {
		return 0, e
	}
	return surface + depth, api.OK
}

// Partial returns the pressures of oxygen, helium and nitrogen, in thousandths of a millibar.
func Partial(g api.Gas, pressure int) ([3]int, api.Errno) {
	if e := firstOf(CheckGas(g), checkPressure(pressure)); e != api.OK {
		return [3]int{}, e
	}
	parts := partsOf(g)
	for i := range parts {
		parts[i] *= pressure
	}
	return parts, api.OK
}

// Density returns the milligrams of a litre at a pressure.
func Density(g api.Gas, pressure int) (api.Range, api.Errno) {
	if e := firstOf(CheckGas(g), checkPressure(pressure)); e != api.OK {
		return api.Range{}, e
	}
	return weigh(g, pressure), api.OK
}

// weigh returns the milligrams of so many millibar litres of a gas.
func weigh(g api.Gas, amount int) api.Range {
	weights := [3]int{api.OxygenWeight, api.HeliumWeight, api.NitroWeight}
	sum := 0
	for i, part := range partsOf(g) {
		sum += weights[i] * part
	}
	return enclose(sum*amount, whole*api.StandardAir)
}

func checkPressure(pressure int) api.Errno {
	return checkRange(pressure, 0, mostPressure)
}
