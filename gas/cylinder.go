package gas

import "shotline/api"

// Held returns what a cylinder of a size in millilitres holds, in millibar litres, rounded down.
func Held(size, pressure int) (int, api.Errno) {
	if e := firstOf(checkSize(size), checkRange(pressure, 0, api.MaxPressure)); e != api.OK {
		return 0, e
	}
	return size * pressure / 1000, api.OK
}

// PressureOf returns the pressure of an amount in a cylinder.
func PressureOf(size, amount int) (api.Range, api.Errno) {
	if e := firstOf(checkSize(size), checkAmount(amount)); e != api.OK {
		return api.Range{}, e
	}
	return enclose(1000*amount, size), api.OK
}

// WeightOf returns the weight of an amount of a gas, in milligrams.
func WeightOf(g api.Gas, amount int) (api.Range, api.Errno) {
	if e := firstOf(CheckGas(g), checkAmount(amount)); e != api.OK {
		return api.Range{}, e
	}
	return weigh(g, amount), api.OK
}

func checkSize(size int) api.Errno {
	return checkRange(size, 1, api.MaxSize)
}
