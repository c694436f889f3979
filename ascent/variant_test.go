package ascent_test

import (
	"math"
	"slices"
	"testing"

	"shotline/api"
	"shotline/ascent"
)

// P4.6: longer stays.
func TestLonger(t *testing.T) {
	x := sample(740230)
	x.Rules.Fine = 0
	want := x
	want.Loads = nitrogen(1135230) // a half time: half of what was missing to 1530230
	y, e := ascent.Changed(x, api.AscentChange{Kind: api.AscentLonger, Value: 600})
	expect(t, "a half time", y, e, want, api.OK)
	someTasks(300, func(c chance, x api.AscentTask) {
		seconds := []int{1, 100000, c.from(1, 2000)}[c.Intn(3)]
		y, e := ascent.Changed(x, api.AscentChange{Kind: api.AscentLonger, Value: seconds})
		if gasFor(x, x.Depth) < 0 {
			refuse(t, flat(x), y, e, api.ErrGap)
			return
		}
		leg := stay(x)
		leg.Seconds = seconds
		expect(t, flat(x), y, e, behind(x, leg), api.OK)
	})
	x = atSurface()
	x.Loads, x.Rules.Fine = nitrogen(1925230), 0
	y, e = ascent.Changed(x, api.AscentChange{Kind: api.AscentLonger, Value: 600})
	x.Loads = nitrogen(1332730)
	expect(t, "at the surface", y, e, x, api.OK)
	x.Depth, x.Gases[0].Deepest = 1, 0
	y, e = ascent.Changed(x, api.AscentChange{Kind: api.AscentLonger, Value: 600})
	refuse(t, "no gas", y, e, api.ErrGap)
	for _, seconds := range []int{0, -1, 100001, math.MinInt, math.MaxInt} {
		y, e = ascent.Changed(x, api.AscentChange{Kind: api.AscentLonger, Value: seconds})
		refuse(t, flat(seconds), y, e, api.ErrRange)
	}
}

// P4.6: lost gases.
func TestLost(t *testing.T) {
	x := sample(740230)
	x.Gases = append(x.Gases, api.AscentGas{Gas: nx50, Deepest: 2000}, api.AscentGas{Gas: oxygen, Deepest: 600})
	for number, left := range [][]int{{1, 2}, {0, 2}, {0, 1}} {
		want := x
		want.Gases = []api.AscentGas{x.Gases[left[0]], x.Gases[left[1]]}
		y, e := ascent.Changed(x, api.AscentChange{Kind: api.AscentLost, Value: number})
		expect(t, flat(number), y, e, want, api.OK)
	}
	for _, number := range []int{-1, 3, math.MinInt, math.MaxInt} {
		y, e := ascent.Changed(x, api.AscentChange{Kind: api.AscentLost, Value: number})
		refuse(t, flat(number), y, e, api.ErrMissing)
	}
	y, e := ascent.Changed(sample(740230), api.AscentChange{Kind: api.AscentLost})
	refuse(t, "the only gas", y, e, api.ErrShape)
	y, e = ascent.Changed(sample(740230), api.AscentChange{Kind: api.AscentLost, Value: 1})
	refuse(t, "another one than the only gas", y, e, api.ErrMissing)
	x.Gases = x.Gases[:2]
	x.Gases[1].Deepest = 0
	y, e = ascent.Changed(x, api.AscentChange{Kind: api.AscentLost}) // also the only one that may be breathed there
	x.Gases = x.Gases[1:]
	expect(t, "the only gas for the depth", y, e, x, api.OK)
}

// P4.6: other factors, and kinds that are none.
func TestOtherFactors(t *testing.T) {
	x := sample(740230)
	x.Rules.Low, x.Rules.High = 300, 800
	for low, want := range map[int]api.Errno{0: api.OK, 300: api.OK, 800: api.OK, 801: api.ErrOrder, 1000: api.ErrOrder,
		1001: api.ErrRange, -1: api.ErrRange, math.MinInt: api.ErrRange, math.MaxInt: api.ErrRange} {
		y, e := ascent.Changed(x, api.AscentChange{Kind: api.AscentFactor, Value: low})
		if want != api.OK {
			refuse(t, flat(low), y, e, want)
			continue
		}
		z := x
		z.Rules.Low = low
		expect(t, flat(low), y, e, z, want)
	}
	for _, kind := range []int{-1, 3, math.MinInt, math.MaxInt} {
		y, e := ascent.Changed(x, api.AscentChange{Kind: kind, Value: -1})
		refuse(t, flat(kind), y, e, api.ErrKind)
	}
}

// P4.6: seconds of variants.
func TestVariants(t *testing.T) {
	x := sample(740230)
	l, e := ascent.Variants(x, []api.AscentChange{{Value: 600}, {Kind: api.AscentLost}, {Kind: 3}})
	expect(t, "the first task", l, e, []int{120, 120, -1, -1}, api.OK)
	x = sample(2400000)
	x.Gases = append(x.Gases, api.AscentGas{Gas: oxygen, Deepest: 500})
	x.Rules.Low, x.Rules.Step = 500, 60
	all := []api.AscentChange{{Kind: api.AscentFactor, Value: 1000}, {Kind: api.AscentLonger, Value: 600}, {Kind: api.AscentLost, Value: 1}, {Kind: api.AscentLost, Value: 0},
		{Kind: api.AscentLost, Value: 2}, {Kind: api.AscentFactor, Value: 1001}, {Kind: api.AscentLonger}, {Kind: -1}}
	l, e = ascent.Variants(x, all)
	expect(t, "eight changes", l, e, seconds(x, all), api.OK)
	if l[0] <= 0 || l[1] >= l[0] || l[3] <= l[0] || !slices.Equal(l[4:], []int{-1, -1, -1, -1, -1}) {
		t.Errorf("eight changes: %v", l)
	}
	l, e = ascent.Variants(x, append(all, all[0]))
	refuse(t, "nine changes", l, e, api.ErrLarge)
	l, e = ascent.Variants(x, nil)
	expect(t, "no changes", l, e, seconds(x, nil), api.OK)
	x.Depth = 0
	l, e = ascent.Variants(x, all[:3])
	expect(t, "the surface", l, e, []int{0, 0, 0, 0}, api.OK)
	x = sample(3500001)
	l, e = ascent.Variants(x, []api.AscentChange{{Kind: api.AscentFactor, Value: 1000}})
	expect(t, "no schedule", l, e, []int{-1, -1}, api.OK)
	someTasks(200, func(c chance, x api.AscentTask) {
		var changes []api.AscentChange
		for range c.Intn(4) {
			kind := c.Intn(3)
			changes = append(changes, api.AscentChange{Kind: kind, Value: []int{c.Intn(2000), c.Intn(4), c.Intn(1001)}[kind]})
		}
		l, e := ascent.Variants(x, changes)
		expect(t, flat(x), l, e, seconds(x, changes), api.OK)
	})
}

// seconds returns what Variants is to return, by the definition.
func seconds(x api.AscentTask, changes []api.AscentChange) []int {
	of := func(x api.AscentTask, e api.Errno) int {
		s, e2 := scheduleOf(x)
		if e != api.OK || e2 != api.OK {
			return -1
		}
		return sumOf(s.Legs)
	}
	l := []int{of(x, api.OK)}
	for _, c := range changes {
		y, e := ascent.Changed(x, c)
		if e != api.OK {
			y = sample(0)
		}
		l = append(l, of(y, e))
	}
	return l
}
