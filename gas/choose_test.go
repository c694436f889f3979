package gas_test

import (
	"slices"
	"testing"

	"shotline/api"
	"shotline/gas"
)

var aim = api.GasAim{Surface: 1000, Depth: 6000, Oxygen: limits, Narcotic: 3000}

// wrongAims are aims with the error that comes first.
var wrongAims = []struct {
	a    api.GasAim
	want api.Errno
}{
	{api.GasAim{Surface: 399, Depth: 6000, Oxygen: limits, Narcotic: 3000}, api.ErrRange},
	{api.GasAim{Surface: 1101, Depth: 6000, Oxygen: turned, Narcotic: 3000}, api.ErrRange},
	{api.GasAim{Surface: 1000, Depth: -1, Oxygen: turned, Narcotic: 3000}, api.ErrRange},
	{api.GasAim{Surface: 1000, Depth: 30001, Oxygen: turned, Narcotic: 3000}, api.ErrRange},
	{api.GasAim{Surface: 1000, Depth: 6000, Oxygen: turned, Narcotic: -1}, api.ErrOrder},
	{api.GasAim{Surface: 1000, Depth: 6000, Oxygen: api.OxygenLimits{}, Narcotic: 3000}, api.ErrRange},
	{api.GasAim{Surface: 1000, Depth: 6000, Oxygen: limits, Narcotic: -1}, api.ErrRange},
	{api.GasAim{Surface: 1000, Depth: 6000, Oxygen: limits, Narcotic: 30001}, api.ErrRange},
}

// P1.4: the example, no helium where none is needed, all the rest oxygen, and aims that no gas meets.
func TestBestGas(t *testing.T) {
	for _, c := range []struct {
		a      api.GasAim
		want   api.Gas
		wanted api.Errno
	}{
		{aim, api.Gas{Oxygen: 200, Helium: 429}, api.OK},
		{api.GasAim{Surface: 1000, Depth: 3000, Oxygen: limits, Narcotic: 3000}, api.Gas{Oxygen: 350}, api.OK},
		{api.GasAim{Surface: 1000, Depth: 3000, Oxygen: limits, Narcotic: 2999}, api.Gas{Oxygen: 350, Helium: 1}, api.OK},
		{api.GasAim{Surface: 1000, Depth: 3000, Oxygen: limits, Narcotic: 30000}, api.Gas{Oxygen: 350}, api.OK},
		{api.GasAim{Surface: 1000, Depth: 0, Oxygen: limits, Narcotic: 0}, oxygen, api.OK},
		{api.GasAim{Surface: 1000, Depth: 1000, Oxygen: limits, Narcotic: 0}, api.Gas{Oxygen: 500, Helium: 500}, api.OK},
		{api.GasAim{Surface: 1000, Depth: 1000, Oxygen: api.OxygenLimits{Least: 1000, Most: 1000}, Narcotic: 0}, api.Gas{Oxygen: 500, Helium: 500}, api.OK},
		{api.GasAim{Surface: 1000, Depth: 1000, Oxygen: api.OxygenLimits{Least: 1001, Most: 4000}, Narcotic: 0}, api.Gas{}, api.ErrNone},
		{api.GasAim{Surface: 1000, Depth: 0, Oxygen: api.OxygenLimits{Least: 1001, Most: 4000}, Narcotic: 0}, api.Gas{}, api.ErrNone},
		{api.GasAim{Surface: 1000, Depth: 30000, Oxygen: api.OxygenLimits{Least: 1, Most: 30}, Narcotic: 0}, api.Gas{}, api.ErrNone},
		{api.GasAim{Surface: 1100, Depth: 30000, Oxygen: api.OxygenLimits{Least: 1, Most: 4000}, Narcotic: 0}, api.Gas{Oxygen: 35, Helium: 965}, api.OK},
	} {
		g, e := gas.BestGas(c.a)
		expect(t, call("BestGas", c.a), g, e, c.want, c.wanted)
	}
	for _, c := range wrongAims {
		g, e := gas.BestGas(c.a)
		refuse(t, call("BestGas", c.a), g, e, c.want)
	}
}

// P1.4, P1.8: among all gases that meet an aim, none has less helium, or as much and more oxygen.
func TestBestGasOfAll(t *testing.T) {
	for _, surface := range []int{400, 1013} {
		for _, depth := range []int{0, 150, 2999, 6000, 30000} {
			for _, narcotic := range []int{0, 1234, 3000, 30000} {
				for _, l := range []api.OxygenLimits{limits, {Least: 400, Most: 400}, {Least: 500, Most: 4000}} {
					a := api.GasAim{Surface: surface, Depth: depth, Oxygen: l, Narcotic: narcotic}
					want, wanted := bestOfAll(a)
					g, e := gas.BestGas(a)
					expect(t, call("BestGas", a), g, e, want, wanted)
				}
			}
		}
	}
}

func bestOfAll(a api.GasAim) (api.Gas, api.Errno) {
	for h := range 1001 {
		for o := 1000 - h; o >= 0; o-- {
			if g := (api.Gas{Oxygen: o, Helium: h}); breathes(g, a.Surface, a.Depth, a.Oxygen) && meets(g, a) {
				return g, api.OK
			}
		}
	}
	return api.Gas{}, api.ErrNone
}

// P1.4: the most oxygen, then the least helium, then the first one; depths are not rounded.
func TestRichest(t *testing.T) {
	eight := slices.Repeat([]api.Gas{air}, 7)
	for _, c := range []struct {
		name   string
		l      []api.Gas
		a      api.GasAim
		want   int
		wanted api.Errno
	}{
		{"air is too narcotic", []api.Gas{air, tx1845, {Oxygen: 190, Helium: 440}}, aim, 2, api.OK},
		{"more oxygen first", []api.Gas{{Oxygen: 190, Helium: 440}, tx1845}, aim, 0, api.OK},
		{"less helium", []api.Gas{{Oxygen: 190, Helium: 450}, {Oxygen: 190, Helium: 440}, {Oxygen: 190, Helium: 460}}, aim, 1, api.OK},
		{"more oxygen with more helium", []api.Gas{{Oxygen: 180, Helium: 440}, {Oxygen: 190, Helium: 700}}, aim, 1, api.OK},
		{"the first one of the same", []api.Gas{air, tx1845, tx1845}, aim, 1, api.OK},
		{"too little oxygen, too much", []api.Gas{{Oxygen: 201, Helium: 500}, {Oxygen: 22, Helium: 500}, {Oxygen: 23, Helium: 500}}, aim, 2, api.OK},
		{"all limits just kept", []api.Gas{{Oxygen: 200, Helium: 429}}, aim, 0, api.OK},
		{"a little too narcotic", []api.Gas{{Oxygen: 200, Helium: 428}}, aim, 0, api.ErrNone},
		{"half a centimetre too deep", []api.Gas{{Oxygen: 210, Helium: 1}}, api.GasAim{Surface: 1000, Depth: 3500, Oxygen: limits, Narcotic: 3495}, 0, api.ErrNone},
		{"half a centimetre less", []api.Gas{{Oxygen: 210, Helium: 1}}, api.GasAim{Surface: 1000, Depth: 3500, Oxygen: limits, Narcotic: 3496}, 0, api.OK},
		{"just as much oxygen", []api.Gas{oxygen}, api.GasAim{Surface: 1000, Oxygen: api.OxygenLimits{Least: 1000, Most: 1000}}, 0, api.OK},
		{"a little too much oxygen", []api.Gas{oxygen}, api.GasAim{Surface: 1001, Oxygen: api.OxygenLimits{Least: 160, Most: 1000}}, 0, api.ErrNone},
		{"a little too little oxygen", []api.Gas{oxygen}, api.GasAim{Surface: 999, Oxygen: api.OxygenLimits{Least: 1000, Most: 1400}}, 0, api.ErrNone},
		{"none without gases", nil, aim, 0, api.ErrNone},
		{"none of an empty list", []api.Gas{}, aim, 0, api.ErrNone},
		{"the eighth", append(slices.Clone(eight), tx1845), aim, 7, api.OK},
		{"nine", append(slices.Clone(eight), tx1845, fullGas), wrongAims[0].a, 0, api.ErrLarge},
		{"the first wrong gas", []api.Gas{air, fullGas, wideGas}, wrongAims[0].a, 0, api.ErrSum},
		{"the first wrong gas too", []api.Gas{air, wideGas, fullGas}, wrongAims[4].a, 0, api.ErrRange},
	} {
		kept := slices.Clone(c.l)
		n, e := gas.Richest(c.l, c.a)
		expect(t, "Richest, "+c.name, n, e, c.want, c.wanted)
		if !slices.Equal(kept, c.l) {
			t.Errorf("Richest, %s: the argument is changed", c.name)
		}
	}
	for _, c := range wrongAims {
		n, e := gas.Richest([]api.Gas{oxygen, tx1845}, c.a)
		refuse(t, call("Richest", c.a), n, e, c.want)
	}
}

// P1.4, P1.8: among many lists, as the definitions say it.
func TestRichestOfMany(t *testing.T) {
	var grid []api.Gas
	someGases(60, func(g api.Gas) { grid = append(grid, g) })
	for i := 0; i+8 <= len(grid); i++ {
		l := []api.Gas{grid[i], grid[i+7], grid[i+3], grid[len(grid)-1-i], grid[i+3], grid[i+1]}
		for _, a := range []api.GasAim{aim, {Surface: 1013, Depth: 2000, Oxygen: limits, Narcotic: 2000}} {
			want, wanted := 0, api.ErrNone
			for k := len(l) - 1; k >= 0; k-- {
				if meets(l[k], a) && (wanted != api.OK || l[k].Oxygen > l[want].Oxygen || l[k].Oxygen == l[want].Oxygen && l[k].Helium <= l[want].Helium) {
					want, wanted = k, api.OK
				}
			}
			n, e := gas.Richest(l, a)
			expect(t, call("Richest", l, a), n, e, want, wanted)
		}
	}
}

// P1.4: the least depth without a gas: in front of, between, and behind the gases.
func TestFirstGap(t *testing.T) {
	all := api.Range{Lo: 0, Hi: 5000}
	deep := api.Range{Lo: 0, Hi: 30000}
	eight := slices.Repeat([]api.Gas{air}, 8)
	for _, c := range []struct {
		name    string
		l       []api.Gas
		surface int
		o       api.OxygenLimits
		depths  api.Range
		want    int
		wanted  api.Errno
	}{
		{"behind", []api.Gas{nx32, oxygen}, 1000, limits, all, 3376, api.OK},
		{"none", []api.Gas{nx32, oxygen}, 1000, limits, api.Range{Lo: 0, Hi: 3375}, 0, api.ErrNone},
		{"the last depth", []api.Gas{nx32, oxygen}, 1000, limits, api.Range{Lo: 0, Hi: 3376}, 3376, api.OK},
		{"all behind", []api.Gas{nx32, oxygen}, 1000, limits, api.Range{Lo: 4000, Hi: 5000}, 4000, api.OK},
		{"in front", []api.Gas{tx1070}, 1000, limits, all, 0, api.OK},
		{"in front, later", []api.Gas{tx1070}, 1000, limits, api.Range{Lo: 599, Hi: 700}, 599, api.OK},
		{"behind the front", []api.Gas{tx1070}, 1000, limits, api.Range{Lo: 600, Hi: 5000}, 0, api.ErrNone},
		{"between", []api.Gas{tx1070, oxygen}, 1000, limits, all, 401, api.OK},
		{"closed", []api.Gas{tx1070, oxygen, nx32}, 1000, limits, deep, 13001, api.OK},
		{"touching", []api.Gas{oxygen, {Oxygen: 500}}, 1000, api.OxygenLimits{Least: 600, Most: 1200}, deep, 1401, api.OK},
		{"a gap of one", []api.Gas{oxygen, {Oxygen: 500}}, 1000, api.OxygenLimits{Least: 601, Most: 1200}, deep, 201, api.OK},
		{"in any order", []api.Gas{{Oxygen: 10}, {Oxygen: 50}, {Oxygen: 160}, {Oxygen: 500}}, 1000, limits, deep, 0, api.ErrNone},
		{"no gases", nil, 1000, limits, api.Range{Lo: 17, Hi: 17}, 17, api.OK},
		{"an empty list", []api.Gas{}, 1000, limits, all, 0, api.OK},
		{"gases for no depth", []api.Gas{helium, {}}, 1000, limits, all, 0, api.OK},
		{"a gas for no depth ahead", []api.Gas{helium, air}, 1000, limits, all, 0, api.ErrNone},
		{"eight", eight, 1000, limits, all, 0, api.ErrNone},
		{"nine", append(slices.Clone(eight), fullGas), 399, turned, api.Range{Lo: -1}, 0, api.ErrLarge},
		{"a wrong gas", []api.Gas{air, fullGas, wideGas}, 399, turned, api.Range{Lo: -1}, 0, api.ErrSum},
		{"another wrong gas", []api.Gas{wideGas, fullGas}, 1000, turned, all, 0, api.ErrRange},
		{"a wrong surface", []api.Gas{air}, 1101, turned, api.Range{Lo: 1}, 0, api.ErrRange},
		{"a wrong surface without gases", nil, 399, turned, api.Range{Lo: 1}, 0, api.ErrRange},
		{"wrong limits", []api.Gas{air}, 1000, turned, api.Range{Lo: -1}, 0, api.ErrOrder},
		{"wrong limits without gases", nil, 1000, api.OxygenLimits{}, api.Range{Lo: 1}, 0, api.ErrRange},
		{"a range above", []api.Gas{air}, 1000, limits, api.Range{Lo: -1, Hi: 5}, 0, api.ErrRange},
		{"a range below", []api.Gas{air}, 1000, limits, api.Range{Lo: 0, Hi: 30001}, 0, api.ErrRange},
		{"a turned range below", []api.Gas{air}, 1000, limits, api.Range{Lo: 30001, Hi: 0}, 0, api.ErrRange},
		{"a turned range above", []api.Gas{air}, 1000, limits, api.Range{Lo: 0, Hi: -1}, 0, api.ErrRange},
		{"a turned range", []api.Gas{air}, 1000, limits, api.Range{Lo: 1, Hi: 0}, 0, api.ErrOrder},
	} {
		kept := slices.Clone(c.l)
		d, e := gas.FirstGap(c.l, c.surface, c.o, c.depths)
		expect(t, "FirstGap, "+c.name, d, e, c.want, c.wanted)
		if !slices.Equal(kept, c.l) {
			t.Errorf("FirstGap, %s: the argument is changed", c.name)
		}
	}
}

// P1.4: depth by depth.
func TestFirstGapEveryDepth(t *testing.T) {
	list := []api.Gas{{Oxygen: 20}, {Oxygen: 160}, {Oxygen: 1000}, {Oxygen: 75}, {Oxygen: 333}, {Oxygen: 500}, {Oxygen: 101}, {}}
	for n := range len(list) + 1 {
		for _, l := range []api.OxygenLimits{limits, {Least: 700, Most: 1200}, {Least: 1000, Most: 1500}} {
			for _, from := range []int{0, 1, 777, 3000, 12000} {
				want, wanted := 0, api.ErrNone
				for d := 20000; d >= from; d-- {
					if !slices.ContainsFunc(list[:n], func(g api.Gas) bool { return breathes(g, 1013, d, l) }) {
						want, wanted = d, api.OK
					}
				}
				d, e := gas.FirstGap(list[:n], 1013, l, api.Range{Lo: from, Hi: 20000})
				expect(t, call("FirstGap", list[:n], l, from), d, e, want, wanted)
			}
		}
	}
}
