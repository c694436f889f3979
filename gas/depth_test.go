package gas_test

import (
	"testing"

	"shotline/api"
	"shotline/gas"
)

// P1.3: the ends of the limits, and which error comes first.
func TestCheckLimits(t *testing.T) {
	for _, c := range []struct {
		least, most int
		want        api.Errno
	}{
		{160, 1400, api.OK}, {1, 1, api.OK}, {4000, 4000, api.OK}, {1, 4000, api.OK},
		{1401, 1400, api.ErrOrder}, {4000, 1, api.ErrOrder},
		{0, 1400, api.ErrRange}, {-1, 1400, api.ErrRange}, {160, 4001, api.ErrRange}, {160, 0, api.ErrRange},
		{4001, 4001, api.ErrRange}, {4001, 1, api.ErrRange}, {1, -1, api.ErrRange}, {0, 0, api.ErrRange},
	} {
		if e := gas.CheckLimits(api.OxygenLimits{Least: c.least, Most: c.most}); e != c.want {
			t.Errorf("CheckLimits(%d, %d): %d, want %d", c.least, c.most, e, c.want)
		}
	}
}

// P1.3: the examples, gases for the surface only, for depths only, for one depth, and for none.
func TestDepthsFor(t *testing.T) {
	for _, c := range []struct {
		g       api.Gas
		surface int
		l       api.OxygenLimits
		want    api.Range
		wanted  api.Errno
	}{
		{nx32, 1000, limits, api.Range{Lo: 0, Hi: 3375}, api.OK},
		{oxygen, 1000, api.OxygenLimits{Least: 160, Most: 1600}, api.Range{Lo: 0, Hi: 600}, api.OK},
		{tx1070, 1000, limits, api.Range{Lo: 600, Hi: 13000}, api.OK},
		{oxygen, 1000, api.OxygenLimits{Least: 160, Most: 1000}, api.Range{Lo: 0, Hi: 0}, api.OK},
		{oxygen, 1000, api.OxygenLimits{Least: 160, Most: 999}, api.Range{}, api.ErrNone},
		{oxygen, 1000, api.OxygenLimits{Least: 1200, Most: 1200}, api.Range{Lo: 200, Hi: 200}, api.OK},
		{api.Gas{Oxygen: 300}, 1000, api.OxygenLimits{Least: 400, Most: 400}, api.Range{}, api.ErrNone},
		{api.Gas{Oxygen: 10}, 1000, limits, api.Range{Lo: 15000, Hi: 30000}, api.OK},
		{api.Gas{Oxygen: 1}, 1100, api.OxygenLimits{Least: 31, Most: 4000}, api.Range{Lo: 29900, Hi: 30000}, api.OK},
		{api.Gas{Oxygen: 1}, 1100, api.OxygenLimits{Least: 32, Most: 4000}, api.Range{}, api.ErrNone},
		{api.Gas{Oxygen: 5}, 1000, api.OxygenLimits{Least: 155, Most: 160}, api.Range{Lo: 30000, Hi: 30000}, api.OK},
		{helium, 1000, api.OxygenLimits{Least: 1, Most: 4000}, api.Range{}, api.ErrNone},
		{api.Gas{}, 1000, limits, api.Range{}, api.ErrNone},
		{wideGas, 1000, limits, api.Range{}, api.ErrRange},
		{fullGas, 399, turned, api.Range{}, api.ErrSum},
		{air, 399, turned, api.Range{}, api.ErrRange},
		{air, 1101, turned, api.Range{}, api.ErrRange},
		{helium, 1000, turned, api.Range{}, api.ErrOrder},
		{air, 1000, api.OxygenLimits{Least: 0, Most: 1400}, api.Range{}, api.ErrRange},
	} {
		r, e := gas.DepthsFor(c.g, c.surface, c.l)
		expect(t, call("DepthsFor", c.g, c.surface, c.l), r, e, c.want, c.wanted)
	}
}

// P1.8: within DepthsFor a gas may be breathed, at any other depth not.
func TestDepthsForEveryDepth(t *testing.T) {
	for _, surface := range []int{400, 1013, 1100} {
		for _, l := range []api.OxygenLimits{limits, {Least: 1, Most: 4000}, {Least: 500, Most: 501}, {Least: 1, Most: 7}} {
			for _, o := range []int{0, 1, 2, 3, 7, 16, 99, 210, 325, 477, 1000} {
				g := api.Gas{Oxygen: o}
				r, e := gas.DepthsFor(g, surface, l)
				for d := range api.MaxDepth + 1 {
					if inside := e == api.OK && r.Lo <= d && d <= r.Hi; inside != breathes(g, surface, d, l) {
						t.Fatalf("DepthsFor(%v, %d, %v): %v, error %d, is wrong at %d", g, surface, l, r, e, d)
					}
				}
				if e != api.OK && e != api.ErrNone {
					t.Errorf("DepthsFor(%v, %d, %v): error %d", g, surface, l, e)
				}
			}
		}
	}
}

// P1.3: the examples, whole numbers, depths that were above the surface, and errors.
func TestEquivalentDepths(t *testing.T) {
	for _, c := range []struct {
		g              api.Gas
		surface, depth int
		air, narcotic  api.Range
		wanted         api.Errno
	}{
		{nx32, 1000, 3000, api.Range{Lo: 2443, Hi: 2444}, api.Range{Lo: 3000, Hi: 3000}, api.OK},
		{tx1845, 1000, 6000, api.Range{Lo: 2278, Hi: 2279}, api.Range{Lo: 2850, Hi: 2850}, api.OK},
		{air, 1013, 3000, api.Range{Lo: 3000, Hi: 3000}, api.Range{Lo: 3000, Hi: 3000}, api.OK},
		{oxygen, 1013, 30000, api.Range{}, api.Range{Lo: 30000, Hi: 30000}, api.OK},
		{helium, 1013, 30000, api.Range{}, api.Range{}, api.OK},
		{helium, 1100, 0, api.Range{}, api.Range{}, api.OK},
		{api.Gas{}, 1100, 30000, api.Range{Lo: 38267, Hi: 38268}, api.Range{Lo: 30000, Hi: 30000}, api.OK},
		{api.Gas{Oxygen: 789}, 400, 0, api.Range{}, api.Range{}, api.OK},
		{api.Gas{Oxygen: 210, Helium: 1}, 1000, 1, api.Range{}, api.Range{}, api.OK},
		{api.Gas{Oxygen: 210, Helium: 1}, 1000, 2, api.Range{Lo: 0, Hi: 1}, api.Range{Lo: 0, Hi: 1}, api.OK},
		{wideGas, 1000, 3000, api.Range{}, api.Range{}, api.ErrRange},
		{fullGas, 1000, 3000, api.Range{}, api.Range{}, api.ErrSum},
		{fullGas, 399, 3000, api.Range{}, api.Range{}, api.ErrSum},
		{fullGas, 1000, 30001, api.Range{}, api.Range{}, api.ErrSum},
		{air, 399, 3000, api.Range{}, api.Range{}, api.ErrRange},
		{air, 1101, 3000, api.Range{}, api.Range{}, api.ErrRange},
		{air, 1000, -1, api.Range{}, api.Range{}, api.ErrRange},
		{air, 1000, 30001, api.Range{}, api.Range{}, api.ErrRange},
	} {
		r, e := gas.EquivalentAir(c.g, c.surface, c.depth)
		expect(t, call("EquivalentAir", c.g, c.surface, c.depth), r, e, c.air, c.wanted)
		r, e = gas.EquivalentNarcotic(c.g, c.surface, c.depth)
		expect(t, call("EquivalentNarcotic", c.g, c.surface, c.depth), r, e, c.narcotic, c.wanted)
	}
}

// P1.3, P1.8: on many gases and depths; air at the lower end has no more nitrogen pressure, at the upper end no less.
func TestEquivalentDepthsExactly(t *testing.T) {
	someGases(37, func(g api.Gas) {
		for _, surface := range []int{400, 1000, 1013, 1100} {
			for _, depth := range []int{0, 1, 299, 1000, 4321, 29999, 30000} {
				p := surface + depth
				r, e := gas.EquivalentAir(g, surface, depth)
				expect(t, call("EquivalentAir", g, surface, depth), r, e, around(nitrogen(g)*p, 790, surface), api.OK)
				if low, high := 790*(surface+r.Lo), 790*(surface+r.Hi); low > nitrogen(g)*p && r.Lo > 0 || high < nitrogen(g)*p {
					t.Errorf("EquivalentAir(%v, %d, %d): %v", g, surface, depth, r)
				}
				r, e = gas.EquivalentNarcotic(g, surface, depth)
				expect(t, call("EquivalentNarcotic", g, surface, depth), r, e, around((1000-g.Helium)*p, 1000, surface), api.OK)
			}
		}
	})
}
