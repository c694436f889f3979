package gas_test

import (
	"testing"

	"shotline/api"
	"shotline/gas"
)

// P1.2: the sum of both, at the ends of their ranges, and outside.
func TestPressureAt(t *testing.T) {
	for _, c := range []struct {
		surface, depth, want int
		wanted               api.Errno
	}{
		{1000, 3000, 4000, api.OK}, {1013, 0, 1013, api.OK}, {400, 0, 400, api.OK}, {1100, 30000, 31100, api.OK},
		{399, 0, 0, api.ErrRange}, {1101, 0, 0, api.ErrRange}, {1000, -1, 0, api.ErrRange}, {1000, 30001, 0, api.ErrRange},
	} {
		p, e := gas.PressureAt(c.surface, c.depth)
		expect(t, call("PressureAt", c.surface, c.depth), p, e, c.want, c.wanted)
	}
}

// P1.2: each part of a gas, in its place.
func TestPartial(t *testing.T) {
	for _, c := range []struct {
		g        api.Gas
		pressure int
		want     [3]int
		wanted   api.Errno
	}{
		{nx32, 4000, [3]int{1280000, 0, 2720000}, api.OK},
		{tx1845, 7000, [3]int{1260000, 3150000, 2590000}, api.OK},
		{tx1845, 0, [3]int{}, api.OK},
		{tx1845, 1, [3]int{180, 450, 370}, api.OK},
		{helium, 100000, [3]int{0, 100000000, 0}, api.OK},
		{air, 100001, [3]int{}, api.ErrRange},
		{air, -1, [3]int{}, api.ErrRange},
		{wideGas, 1000, [3]int{}, api.ErrRange},
		{fullGas, 1000, [3]int{}, api.ErrSum},
		{fullGas, -1, [3]int{}, api.ErrSum},
	} {
		p, e := gas.Partial(c.g, c.pressure)
		expect(t, call("Partial", c.g, c.pressure), p, e, c.want, c.wanted)
	}
}

// P1.7: the pressures of the parts are together 1000 times the pressure.
func TestPartialSum(t *testing.T) {
	someGases(45, func(g api.Gas) {
		for _, p := range []int{0, 1, 1013, 31100, 99999, 100000} {
			x, e := gas.Partial(g, p)
			if e != api.OK || x[0]+x[1]+x[2] != 1000*p {
				t.Errorf("Partial(%v, %d): %v, error %d", g, p, x, e)
			}
		}
	})
}

// P1.2: densities that are whole numbers, and others between two of them.
func TestDensity(t *testing.T) {
	for _, c := range []struct {
		g        api.Gas
		pressure int
		want     api.Range
		wanted   api.Errno
	}{
		{air, 1013, api.Range{Lo: 1288, Hi: 1289}, api.OK},
		{oxygen, 1013, api.Range{Lo: 1429, Hi: 1429}, api.OK},
		{helium, 1013, api.Range{Lo: 179, Hi: 179}, api.OK},
		{api.Gas{}, 1013, api.Range{Lo: 1251, Hi: 1251}, api.OK},
		{api.Gas{}, 1014, api.Range{Lo: 1252, Hi: 1253}, api.OK},
		{tx1845, 7000, api.Range{Lo: 5532, Hi: 5533}, api.OK},
		{air, 0, api.Range{}, api.OK},
		{helium, 1, api.Range{Lo: 0, Hi: 1}, api.OK},
		{air, 100000, api.Range{Lo: 127184, Hi: 127185}, api.OK},
		{air, 100001, api.Range{}, api.ErrRange},
		{air, -1, api.Range{}, api.ErrRange},
		{wideGas, 1013, api.Range{}, api.ErrRange},
		{fullGas, 1013, api.Range{}, api.ErrSum},
		{fullGas, 100001, api.Range{}, api.ErrSum},
	} {
		r, e := gas.Density(c.g, c.pressure)
		expect(t, call("Density", c.g, c.pressure), r, e, c.want, c.wanted)
	}
	someGases(70, func(g api.Gas) {
		for _, p := range []int{1, 500, 1013, 4052, 31100, 99999} {
			r, e := gas.Density(g, p)
			weight := 1429*g.Oxygen + 179*g.Helium + 1251*nitrogen(g)
			expect(t, call("Density", g, p), r, e, around(weight*p, 1013000, 0), api.OK)
		}
	})
}
