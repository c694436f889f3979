package exposure_test

import (
	"testing"

	"shotline/api"
	"shotline/exposure"
)

// P5.3: each kind alone, at both sides of its limit.
func TestBreaks(t *testing.T) {
	wide := api.ExposureRules{Oxygen: api.OxygenLimits{Least: 1, Most: 4000}, Narcotic: 30000, Dense: 100000, Breath: 1, Emergency: 1, Ascent: 1}
	rules := func(change func(r *api.ExposureRules)) api.ExposureRules {
		r := wide
		change(&r)
		return r
	}
	stay := dive(api.DiveLeg{Seconds: 1}, api.DiveLeg{Seconds: 9, Depth: 1000}, api.DiveLeg{Seconds: 9, Depth: 1000}, api.DiveLeg{Seconds: 9})
	for _, c := range []struct {
		name string
		r    api.ExposureRules
		want []api.LegBreak
	}{
		{"nothing", wide, nil},
		{"poor enough", rules(func(r *api.ExposureRules) { r.Oxygen.Least = 210 }), nil},
		{"too poor at one end", rules(func(r *api.ExposureRules) { r.Oxygen.Least = 211 }), []api.LegBreak{{Leg: 0, Kind: 1}, {Leg: 1, Kind: 1}, {Leg: 3, Kind: 1}}},
		{"too poor", rules(func(r *api.ExposureRules) { r.Oxygen.Least = 421 }), []api.LegBreak{{Leg: 0, Kind: 1}, {Leg: 1, Kind: 1}, {Leg: 2, Kind: 1}, {Leg: 3, Kind: 1}}},
		{"rich enough", rules(func(r *api.ExposureRules) { r.Oxygen.Most = 420 }), nil},
		{"too rich", rules(func(r *api.ExposureRules) { r.Oxygen.Most = 419 }), []api.LegBreak{{Leg: 1, Kind: 2}, {Leg: 2, Kind: 2}, {Leg: 3, Kind: 2}}},
		{"narcotic enough", rules(func(r *api.ExposureRules) { r.Narcotic = 1000 }), nil},
		{"too narcotic", rules(func(r *api.ExposureRules) { r.Narcotic = 999 }), []api.LegBreak{{Leg: 1, Kind: 3}, {Leg: 2, Kind: 3}, {Leg: 3, Kind: 3}}},
		{"dense enough", rules(func(r *api.ExposureRules) { r.Dense = 2544 }), nil}, // 1288.38 * 2000 / 1013 = 2543.69
		{"too dense", rules(func(r *api.ExposureRules) { r.Dense = 2543 }), []api.LegBreak{{Leg: 1, Kind: 4}, {Leg: 2, Kind: 4}, {Leg: 3, Kind: 4}}},
		{"all of it", rules(func(r *api.ExposureRules) {
			r.Oxygen, r.Narcotic, r.Dense = api.OxygenLimits{Least: 300, Most: 400}, 0, 1
		}), []api.LegBreak{{Leg: 0, Kind: 1}, {Leg: 0, Kind: 4}, {Leg: 1, Kind: 1}, {Leg: 1, Kind: 2}, {Leg: 1, Kind: 3}, {Leg: 1, Kind: 4},
			{Leg: 2, Kind: 2}, {Leg: 2, Kind: 3}, {Leg: 2, Kind: 4}, {Leg: 3, Kind: 1}, {Leg: 3, Kind: 2}, {Leg: 3, Kind: 3}, {Leg: 3, Kind: 4}}},
	} {
		l, e := exposure.Breaks(stay, c.r)
		expect(t, c.name, l, e, c.want, api.OK)
	}
	rich := sample()
	rich.Oxygen.Most = 500
	l, e := exposure.Breaks(reef(), rich)
	expect(t, "the example", l, e, []api.LegBreak{{Leg: 0, Kind: 2}, {Leg: 1, Kind: 2}, {Leg: 2, Kind: 2}, {Leg: 3, Kind: 2}}, api.OK)
	l, e = exposure.Breaks(dive(), rich)
	expect(t, "no legs", l, e, []api.LegBreak(nil), api.OK)
	if [4]int{api.BreakPoor, api.BreakRich, api.BreakNarcotic, api.BreakDense} != [4]int{1, 2, 3, 4} {
		t.Error("the kinds have other numbers")
	}
}

// P5.3: of many plans, as the definitions say it; FirstWrong is the first leg of them.
func TestBreaksOfMany(t *testing.T) {
	right := 0
	someDives(1000, func(_ chance, p api.DivePlan, r api.ExposureRules) {
		want := breaksOf(p, r)
		l, e := exposure.Breaks(p, r)
		expect(t, flat(p)+flat(r), l, e, want, api.OK)
		n, e := exposure.FirstWrong(p, r)
		if len(want) == 0 {
			right++
			refuse(t, flat(p)+flat(r), n, e, api.ErrNone)
			return
		}
		expect(t, flat(p)+flat(r), n, e, want[0].Leg, api.OK)
	})
	if right < 10 {
		t.Errorf("%d plans break nothing", right)
	}
}

// P5.3: the number of the first leg that breaks something.
func TestFirstWrong(t *testing.T) {
	r := sample()
	n, e := exposure.FirstWrong(reef(), r)
	refuse(t, "the example", n, e, api.ErrNone)
	n, e = exposure.FirstWrong(dive(), r)
	refuse(t, "no legs", n, e, api.ErrNone)
	r.Oxygen.Most = 500
	n, e = exposure.FirstWrong(reef(), r)
	expect(t, "all legs", n, e, 0, api.OK)
	r.Oxygen.Most = 800 // leg 3 has 806.5
	n, e = exposure.FirstWrong(reef(), r)
	expect(t, "the last leg", n, e, 3, api.OK)
}

// P5.3: depths of gases, at the ends of what there is.
func TestDepthsOf(t *testing.T) {
	change := func(least, most, narcotic, dense int) api.ExposureRules {
		r := sample()
		r.Oxygen, r.Narcotic, r.Dense = api.OxygenLimits{Least: least, Most: most}, narcotic, dense
		return r
	}
	for _, c := range []struct {
		name    string
		g       api.Gas
		surface int
		r       api.ExposureRules
		want    api.Range
		wanted  api.Errno
	}{
		{"the example", air, 1000, sample(), api.Range{Lo: 0, Hi: 3000}, api.OK},
		{"oxygen alone counts", air, 1000, change(160, 1400, 30000, 100000), api.Range{Lo: 0, Hi: 5666}, api.OK},
		{"density alone counts", air, 1000, change(160, 1400, 30000, 5200), api.Range{Lo: 0, Hi: 3088}, api.OK}, // 5200 * 1013000 / 1288380 = 4088.57
		{"below a depth", api.Gas{Oxygen: 100, Helium: 700}, 1000, change(160, 1400, 30000, 100000), api.Range{Lo: 600, Hi: 13000}, api.OK},
		{"one depth", oxygen, 1000, change(1100, 1100, 30000, 100000), api.Range{Lo: 100, Hi: 100}, api.OK},
		{"the surface alone", oxygen, 1000, change(160, 1000, 30000, 100000), api.Range{}, api.OK},
		{"all depths", api.Gas{Oxygen: 100, Helium: 900}, 1100, change(1, 4000, 30000, 100000), api.Range{Lo: 0, Hi: 30000}, api.OK},
		{"the greatest depth alone", api.Gas{Oxygen: 10, Helium: 990}, 1000, change(310, 4000, 30000, 100000), api.Range{Lo: 30000, Hi: 30000}, api.OK},
		{"poor everywhere", api.Gas{Oxygen: 10, Helium: 990}, 1000, change(311, 4000, 30000, 100000), api.Range{}, api.ErrNone},
		{"rich everywhere", oxygen, 1000, change(160, 999, 30000, 100000), api.Range{}, api.ErrNone},
		{"narcotic before it is rich enough", air, 1000, change(840, 1400, 2999, 100000), api.Range{}, api.ErrNone},
		{"narcotic where it is rich enough", air, 1000, change(840, 1400, 3000, 100000), api.Range{Lo: 3000, Hi: 3000}, api.OK},
		{"too dense everywhere", air, 1013, change(160, 1400, 3000, 1288), api.Range{}, api.ErrNone},
		{"too dense below the surface", air, 1013, change(160, 1400, 3000, 1289), api.Range{}, api.OK},
		{"no oxygen", helium, 1000, sample(), api.Range{}, api.ErrNone},
		{"the first error of several", wideGas, 399, api.ExposureRules{}, api.Range{}, api.ErrRange},
		{"a gas with a wrong sum", fullGas, 399, api.ExposureRules{}, api.Range{}, api.ErrSum},
	} {
		d, e := exposure.DepthsOf(c.g, c.surface, c.r)
		expect(t, c.name, d, e, c.want, c.wanted)
	}
}

// P5.3: depth by depth.
func TestDepthsOfEveryDepth(t *testing.T) {
	found := 0
	someDives(200, func(c chance, p api.DivePlan, r api.ExposureRules) {
		g := p.Gases[0]
		want, wanted := api.Range{}, api.ErrNone
		for d := range 30001 {
			if len(kindsAt(g, p.Surface, d, r)) > 0 {
				continue
			}
			if wanted != api.OK {
				want.Lo, wanted = d, api.OK
			}
			want.Hi = d
		}
		if wanted == api.OK {
			found++
		}
		d, e := exposure.DepthsOf(g, p.Surface, r)
		expect(t, flat(g)+flat(r), d, e, want, wanted)
	})
	if found < 50 {
		t.Errorf("%d of 200 gases have depths", found)
	}
}

// P5.8: a leg breaks nothing just if both its depths lie in DepthsOf of its gas.
func TestLegsWithinDepths(t *testing.T) {
	right, moving := 0, 0
	someDives(2000, func(_ chance, p api.DivePlan, r api.ExposureRules) {
		l, e := exposure.Breaks(p, r)
		if e != api.OK {
			t.Fatalf("%+v, %+v: error %d", p, r, e)
		}
		broken := map[int]bool{}
		for _, b := range l {
			broken[b.Leg] = true
		}
		for i, leg := range p.Legs {
			_, from := begin(p, i)
			d, e := exposure.DepthsOf(p.Gases[leg.Gas], p.Surface, r)
			within := e == api.OK && d.Lo <= min(from, leg.Depth) && max(from, leg.Depth) <= d.Hi
			if within == broken[i] {
				t.Errorf("%+v, %+v, leg %d: %v, depths %v, error %d", p, r, i, l, d, e)
			}
			if within {
				right++
				moving += min(1, max(from, leg.Depth)-min(from, leg.Depth))
			}
		}
	})
	if right < 100 || moving < 50 {
		t.Errorf("%d legs break nothing, %d of them move", right, moving)
	}
}

// P5.3: legs on another gas than that before, by what is in it.
func TestSwitches(t *testing.T) {
	legs := func(gases ...int) []api.DiveLeg {
		var l []api.DiveLeg
		for _, g := range gases {
			l = append(l, api.DiveLeg{Seconds: 1, Depth: 100, Gas: g})
		}
		return l
	}
	for _, c := range []struct {
		name string
		p    api.DivePlan
		want [][2]int
	}{
		{"the example", reef(), [][2]int{{3, 1}}},
		{"no legs", dive(), nil},
		{"the first leg", dive(legs(1)...), nil},
		{"another number of the same gas", dive(legs(0, 2, 0)...), nil},
		{"each leg", dive(legs(0, 1, 2, 1)...), [][2]int{{1, 1}, {2, 2}, {3, 1}}},
		{"the leg before, not the last switch", dive(legs(1, 0, 2, 2, 1)...), [][2]int{{1, 0}, {4, 1}}},
		{"another helium", api.DivePlan{Name: "h", Surface: 1000, Gases: []api.Gas{{Oxygen: 180}, tx1845}, Legs: legs(0, 1, 0)}, [][2]int{{1, 1}, {2, 0}}},
		{"another oxygen", api.DivePlan{Name: "h", Surface: 1000, Gases: []api.Gas{{Oxygen: 190, Helium: 450}, tx1845}, Legs: legs(1, 0)}, [][2]int{{1, 0}}},
		{"a gas without oxygen and helium first", api.DivePlan{Name: "h", Surface: 1000, Gases: []api.Gas{{}, air}, Legs: legs(0, 0, 1)}, [][2]int{{2, 1}}},
	} {
		l, e := exposure.Switches(c.p)
		expect(t, c.name, l, e, c.want, api.OK)
	}
}
