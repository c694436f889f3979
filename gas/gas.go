// Package gas is chapter 1: gases, pressures, depths, mixtures, cylinders. See shared/doc/01-gas.md.
package gas

import (
	"strconv"
	"strings"

	"shotline/api"
)

// whole is the thousandths of all of a gas.
const whole = 1000

// CheckGas returns ErrRange if a share is not from 0 to 1000, ErrSum if both together are more than 1000.
func CheckGas(g api.Gas) api.Errno {
	if !within(g.Oxygen, 0, whole) || !within(g.Helium, 0, whole) {
		return api.ErrRange
	}
	if g.Oxygen+g.Helium > whole {
		return api.ErrSum
	}
	return api.OK
}

// NitrogenOf returns the nitrogen of a gas, in thousandths.
func NitrogenOf(g api.Gas) (int, api.Errno) {
	if e := CheckGas(g); e != api.OK {
		return 0, e
	}
	return nitrogenOf(g), api.OK
}

// Format returns the text of a gas.
func Format(g api.Gas) (string, api.Errno) {
	if e := CheckGas(g); e != api.OK {
		return "", e
	}
	for name, named := range namedGases() {
		if g == named {
			return name, api.OK
		}
	}
	switch {
	case g.Oxygen%10 != 0 || g.Helium%10 != 0:
		return "gas" + strconv.Itoa(g.Oxygen) + "/" + strconv.Itoa(g.Helium), api.OK
	case g.Helium == 0:
		return "nx" + strconv.Itoa(g.Oxygen/10), api.OK
	}
	return "tx" + strconv.Itoa(g.Oxygen/10) + "/" + strconv.Itoa(g.Helium/10), api.OK
}

// Parse returns the gas with this text.
func Parse(s string) (api.Gas, api.Errno) {
	g, ok := read(s)
	if !ok {
		return api.Gas{}, api.ErrSyntax
	}
	// A gas has one text only, so all others that could be read as it are those of none ("nx21", "nx032").
	if text, e := Format(g); e != api.OK || text != s {
		return api.Gas{}, api.ErrSyntax
	}
	return g, api.OK
}

// namedGases returns the gases with a name of their own.
func namedGases() map[string]api.Gas {
	return map[string]api.Gas{
		"air":    {Oxygen: api.AirOxygen},
		"oxygen": {Oxygen: whole},
		"helium": {Helium: whole},
	}
}

// read returns what a text says, whether or not a gas may be written like this.
func read(s string) (api.Gas, bool) {
	if g, ok := namedGases()[s]; ok {
		return g, true
	}
	if oxygen, ok := strings.CutPrefix(s, "nx"); ok {
		return readShares(oxygen+"/0", 10)
	}
	if shares, ok := strings.CutPrefix(s, "tx"); ok {
		return readShares(shares, 10)
	}
	if shares, ok := strings.CutPrefix(s, "gas"); ok {
		return readShares(shares, 1)
	}
	return api.Gas{}, false
}

// readShares reads the oxygen and the helium of a gas, in units of some thousandths.
func readShares(s string, unit int) (api.Gas, bool) {
	first, second, both := strings.Cut(s, "/")
	oxygen, isOxygen := readShare(first)
	helium, isHelium := readShare(second)
	return api.Gas{Oxygen: oxygen * unit, Helium: helium * unit}, both && isOxygen && isHelium
}

// readShare reads a number that is small enough to be multiplied.
func readShare(s string) (int, bool) {
	n, err := strconv.Atoi(s)
	return n, err == nil && within(n, 0, whole)
}
