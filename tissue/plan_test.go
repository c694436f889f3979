package tissue_test

import (
	"math"
	"slices"
	"testing"

	"shotline/api"
	"shotline/tissue"
)

// dive is a plan with these legs, on air, and on tx18/45 as the gas 1.
func dive(legs ...api.DiveLeg) api.DivePlan {
	return api.DivePlan{Name: "d", Surface: 1000, Gases: []api.Gas{air, tx1845}, Legs: legs}
}

// P3.4: the legs of a plan.
func TestLegsOf(t *testing.T) {
	l, e := tissue.LegsOf(dive(
		api.DiveLeg{Seconds: 600, Depth: 3000},
		api.DiveLeg{Seconds: 0, Depth: 3000, Gas: 1},
		api.DiveLeg{Seconds: 100000, Depth: 3000, Gas: 1},
		api.DiveLeg{Seconds: 1, Depth: 30000},
		api.DiveLeg{Seconds: 90, Depth: 0},
		api.DiveLeg{Seconds: 0, Depth: 0}))
	expect(t, "LegsOf", l, e, []api.TissueLeg{
		{From: 1000, To: 4000, Seconds: 600, Gas: air},
		{From: 4000, To: 4000, Seconds: 0, Gas: tx1845},
		{From: 4000, To: 4000, Seconds: 100000, Gas: tx1845},
		{From: 4000, To: 31000, Seconds: 1, Gas: air},
		{From: 31000, To: 1000, Seconds: 90, Gas: air},
		{From: 1000, To: 1000, Seconds: 0, Gas: air},
	}, api.OK)
	for _, x := range l {
		if e := tissue.CheckLeg(x); e != api.OK {
			t.Errorf("%v: error %d", x, e)
		}
	}
	p := dive(api.DiveLeg{Seconds: 0, Depth: 0})
	p.Surface = 1100
	l, e = tissue.LegsOf(p)
	expect(t, "a leg of no time at the surface", l, e, []api.TissueLeg{stay(1100, 0)}, api.OK)
	l, e = tissue.LegsOf(api.DivePlan{Surface: 400})
	expect(t, "no legs, no gases, no name", l, e, []api.TissueLeg{}, api.OK)
	p = dive(slices.Repeat([]api.DiveLeg{{Seconds: 1}}, 60)...)
	p.Gases = slices.Repeat([]api.Gas{air}, 8)
	l, e = tissue.LegsOf(p)
	if len(l) != 60 || e != api.OK {
		t.Errorf("60 legs, 8 gases: %d legs, error %d", len(l), e)
	}
}

// P3.4: errors of plans, in their order: each plan has those of the ones behind it as well.
func TestWrongPlans(t *testing.T) {
	wrong := []struct {
		change func(p *api.DivePlan)
		want   api.Errno
	}{
		{func(p *api.DivePlan) { p.Legs = []api.DiveLeg{{Seconds: 0, Depth: 1}} }, api.ErrZero},
		{func(p *api.DivePlan) { p.Legs[0].Gas = 2 }, api.ErrMissing},
		{func(p *api.DivePlan) { p.Legs[0].Gas = -1 }, api.ErrMissing},
		{func(p *api.DivePlan) { p.Legs[0].Depth = 30001 }, api.ErrRange},
		{func(p *api.DivePlan) { p.Legs = slices.Repeat(p.Legs, 61) }, api.ErrLarge},
		{func(p *api.DivePlan) { p.Gases = []api.Gas{air, fullGas, wideGas} }, api.ErrSum},
		{func(p *api.DivePlan) { p.Gases = []api.Gas{air, wideGas, fullGas} }, api.ErrRange},
		{func(p *api.DivePlan) { p.Gases = slices.Repeat(p.Gases, 3) }, api.ErrLarge},
		{func(p *api.DivePlan) { p.Surface = 399 }, api.ErrRange},
		{func(p *api.DivePlan) { p.Surface = 1101 }, api.ErrRange},
	}
	p := dive()
	for i, x := range wrong {
		x.change(&p)
		l, e := tissue.LegsOf(p)
		refuse(t, flat(i), l, e, x.want)
	}
}

// P3.4: errors of the legs of plans.
func TestWrongLegsOfPlans(t *testing.T) {
	right := api.DiveLeg{Seconds: 60, Depth: 1000}
	wrong := map[api.DiveLeg]api.Errno{
		{Seconds: -1, Depth: 1000, Gas: 2}:         api.ErrRange,
		{Seconds: 100001, Depth: 1000, Gas: 2}:     api.ErrRange,
		{Seconds: 0, Depth: -1, Gas: 2}:            api.ErrRange,
		{Seconds: 0, Depth: 30001, Gas: 2}:         api.ErrRange,
		{Seconds: 0, Depth: 999, Gas: 2}:           api.ErrMissing,
		{Seconds: 1, Depth: 999, Gas: math.MaxInt}: api.ErrMissing,
		{Seconds: 0, Depth: 999}:                   api.ErrZero,
		{Seconds: 0, Depth: 0}:                     api.ErrZero,
		{Seconds: 0, Depth: 1000, Gas: 1}:          api.OK,
	}
	for x, want := range wrong {
		l, e := tissue.LegsOf(dive(right, x, right))
		if e != want {
			t.Errorf("%v: error %d, want %d", x, e, want)
		}
		zeroBeside(t, flat(x), l, e)
	}
	l, e := tissue.LegsOf(dive(api.DiveLeg{Seconds: 0, Depth: 5}, api.DiveLeg{Seconds: -1}))
	refuse(t, "two wrong legs", l, e, api.ErrZero)
	l, e = tissue.LegsOf(dive(api.DiveLeg{Seconds: -1}, api.DiveLeg{Seconds: 0, Depth: 5}))
	refuse(t, "two wrong legs", l, e, api.ErrRange)
	l, e = tissue.LegsOf(api.DivePlan{Surface: 1000, Legs: []api.DiveLeg{right}})
	refuse(t, "no gases", l, e, api.ErrMissing)
}
