package gas_test

import (
	"testing"

	"shotline/api"
	"shotline/gas"
)

// P1: no function panics, whatever its arguments, and beside an error each other result is its zero value.
func TestEveryArgument(t *testing.T) {
	for _, a := range extremes {
		for _, b := range extremes {
			g := api.Gas{Oxygen: a, Helium: b}
			twoNumbers(t, a, b)
			someGas(t, g)
			for _, c := range extremes {
				gasAndNumber(t, g, c)
				l := api.OxygenLimits{Least: b, Most: c}
				for _, x := range []api.Gas{air, tx1070, fullGas, {Oxygen: 1}} {
					r, e := gas.DepthsFor(x, a, l)
					zeroBeside(t, "DepthsFor", r, e)
				}
				someAim(t, api.GasAim{Surface: a, Depth: b, Oxygen: limits, Narcotic: c})
				someAim(t, api.GasAim{Surface: 1000, Depth: a, Oxygen: l, Narcotic: 3000})
				d, e := gas.FirstGap([]api.Gas{air, tx1070}, a, limits, api.Range{Lo: b, Hi: c})
				zeroBeside(t, "FirstGap", d, e)
			}
		}
	}
}

func twoNumbers(t *testing.T, a, b int) {
	p, e := gas.PressureAt(a, b)
	zeroBeside(t, "PressureAt", p, e)
	p, e = gas.Held(a, b)
	zeroBeside(t, "Held", p, e)
	r, e := gas.PressureOf(a, b)
	zeroBeside(t, "PressureOf", r, e)
	for _, x := range []api.Gas{air, tx1845, fullGas} {
		r, e = gas.EquivalentAir(x, a, b)
		zeroBeside(t, "EquivalentAir", r, e)
		r, e = gas.EquivalentNarcotic(x, a, b)
		zeroBeside(t, "EquivalentNarcotic", r, e)
	}
	gas.CheckLimits(api.OxygenLimits{Least: a, Most: b})
}

func someGas(t *testing.T, g api.Gas) {
	n, e := gas.NitrogenOf(g)
	zeroBeside(t, "NitrogenOf", n, e)
	s, e := gas.Format(g)
	zeroBeside(t, "Format", s, e)
	if want := gas.CheckGas(g); e != want {
		t.Errorf("Format(%v): error %d, want %d", g, e, want)
	}
}

func gasAndNumber(t *testing.T, g api.Gas, n int) {
	p, e := gas.Partial(g, n)
	zeroBeside(t, "Partial", p, e)
	r, e := gas.Density(g, n)
	zeroBeside(t, "Density", r, e)
	r, e = gas.WeightOf(g, n)
	zeroBeside(t, "WeightOf", r, e)
	parts := []api.GasPart{{Gas: g, Amount: n}, {Gas: air, Amount: 1}}
	m, e := gas.Mixed(parts)
	zeroBeside(t, "Mixed", m, e)
	x, e := gas.Nearest(parts)
	zeroBeside(t, "Nearest", x, e)
	if want := gas.CheckParts(parts); e != want {
		t.Errorf("Nearest(%v): error %d, want %d", parts, e, want)
	}
}

func someAim(t *testing.T, a api.GasAim) {
	g, e := gas.BestGas(a)
	zeroBeside(t, "BestGas", g, e)
	if e == api.OK && (gas.CheckGas(g) != api.OK || !meets(g, a)) {
		t.Errorf("BestGas(%v): %v does not meet it", a, g)
	}
	n, e := gas.Richest([]api.Gas{air, tx1845, oxygen}, a)
	zeroBeside(t, "Richest", n, e)
}
