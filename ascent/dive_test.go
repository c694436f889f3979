package ascent_test

import (
	"math"
	"slices"
	"testing"

	"shotline/api"
	"shotline/ascent"
	"shotline/tissue"
)

// atSurface is the task of the examples at the surface, with what is breathed there.
func atSurface() api.AscentTask {
	x := sample(740230)
	x.Depth = 0
	return x
}

// dive is a plan with these legs, on nitrox 50, and on tx18/45 as the gas 1.
func dive(legs ...api.DiveLeg) api.DivePlan {
	return api.DivePlan{Name: "d", Surface: 1000, Gases: []api.Gas{nx50, tx1845}, Legs: legs}
}

// P4.5: the task at the end of a plan.
func TestBegun(t *testing.T) {
	for _, p := range []api.DivePlan{
		dive(api.DiveLeg{Seconds: 60, Depth: 1000}),
		dive(api.DiveLeg{Seconds: 60, Depth: 2000}, api.DiveLeg{Seconds: 600, Depth: 2000, Gas: 1}, api.DiveLeg{Seconds: 600, Depth: 700}, api.DiveLeg{Depth: 700, Gas: 1}),
		dive(api.DiveLeg{Seconds: 60, Depth: 2000}, api.DiveLeg{Seconds: 10}),
		dive(slices.Repeat([]api.DiveLeg{{Seconds: 100000, Depth: 30000, Gas: 1}}, 60)...),
	} {
		for fine := range 7 {
			x := atSurface()
			x.Rules.Fine = fine
			legs, _ := tissue.LegsOf(p)
			l, e := tissue.Followed(x.Table, x.Loads, legs, fine)
			if e != api.OK {
				t.Fatal(e)
			}
			want := x
			want.Loads, want.Depth = l[len(l)-1], p.Legs[len(p.Legs)-1].Depth
			y, e := ascent.Begun(x, p)
			expect(t, flat(p), y, e, want, api.OK)
		}
	}
	y, e := ascent.Begun(atSurface(), dive())
	expect(t, "no legs", y, e, atSurface(), api.OK)
	y, e = ascent.Begun(atSurface(), api.DivePlan{Surface: 1000})
	expect(t, "no gases", y, e, atSurface(), api.OK)
}

// P4.5: plans that no task is at the end of.
func TestWrongBegun(t *testing.T) {
	y, e := ascent.Begun(sample(740230), api.DivePlan{Surface: 1})
	refuse(t, "at a depth", y, e, api.ErrState)
	for _, surface := range []int{999, 1001, 0, math.MinInt, math.MaxInt} {
		p := dive(api.DiveLeg{Seconds: -1})
		p.Surface = surface
		y, e = ascent.Begun(atSurface(), p)
		refuse(t, flat(surface), y, e, api.ErrClash)
	}
	for leg, want := range map[api.DiveLeg]api.Errno{
		{Seconds: -1, Gas: 2}:                      api.ErrRange,
		{Seconds: 100001}:                          api.ErrRange,
		{Seconds: 1, Depth: 30001}:                 api.ErrRange,
		{Seconds: 0, Depth: 1, Gas: 2}:             api.ErrMissing,
		{Seconds: 0, Depth: 1}:                     api.ErrZero,
		{Seconds: 0, Depth: 0}:                     api.OK,
		{Seconds: 100000, Depth: 30000, Gas: 1}:    api.OK,
		{Seconds: math.MaxInt, Depth: math.MinInt}: api.ErrRange,
	} {
		y, e = ascent.Begun(atSurface(), dive(leg))
		if e != want {
			t.Errorf("%+v: error %d, want %d", leg, e, want)
		}
		zeroBeside(t, flat(leg), y, e)
	}
	p := dive(slices.Repeat([]api.DiveLeg{{Seconds: 1}}, 61)...)
	y, e = ascent.Begun(atSurface(), p)
	refuse(t, "61 legs", y, e, api.ErrLarge)
	p.Gases[1] = fullGas
	y, e = ascent.Begun(atSurface(), p)
	refuse(t, "a wrong gas", y, e, api.ErrSum)
}

// P4.5: rests at the surface.
func TestRested(t *testing.T) {
	y, e := ascent.Rested(atSurface(), 600)
	expect(t, "what is breathed", y, e, atSurface(), api.OK)
	x := atSurface()
	x.Loads, x.Gases = nitrogen(1925230), []api.AscentGas{{Gas: oxygen}} // rests are on air, whatever is carried
	want := x
	want.Loads = nitrogen(1332730)
	y, e = ascent.Rested(x, 600)
	expect(t, "a half time", y, e, want, api.OK)
	someTasks(300, func(c chance, x api.AscentTask) {
		x.Depth = 0
		seconds := []int{0, 1000000, c.Intn(1 << c.from(0, 19))}[c.Intn(3)]
		want := x
		want.Loads, _ = tissue.Rested(x.Table, x.Loads, x.Surface, seconds)
		y, e := ascent.Rested(x, seconds)
		expect(t, flat(x), y, e, want, api.OK)
	})
	for _, seconds := range []int{-1, 1000001, math.MinInt, math.MaxInt} {
		y, e = ascent.Rested(atSurface(), seconds)
		refuse(t, flat(seconds), y, e, api.ErrRange)
		y, e = ascent.Rested(sample(740230), seconds)
		refuse(t, flat(seconds), y, e, api.ErrState)
	}
	x = sample(740230)
	x.Depth = 1
	y, e = ascent.Rested(x, 1)
	refuse(t, "at the depth 1", y, e, api.ErrState)
}
