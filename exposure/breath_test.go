package exposure_test

import (
	"slices"
	"testing"

	"shotline/api"
	"shotline/exposure"
)

// deepest is a plan in which as much is breathed as can be, for so many seconds.
func deepest(seconds int) api.DivePlan {
	return api.DivePlan{Name: "d", Surface: 1100, Gases: []api.Gas{air}, Legs: []api.DiveLeg{{Seconds: 1, Depth: 30000}, {Seconds: seconds - 1, Depth: 30000}}}
}

// P5.4: what legs breathe, rounded up.
func TestLegBreath(t *testing.T) {
	tiny := dive(api.DiveLeg{Seconds: 1, Depth: 1}, api.DiveLeg{Seconds: 60, Depth: 0}, api.DiveLeg{Seconds: 60, Depth: 0, Gas: 1})
	for _, c := range []struct {
		name              string
		p                 api.DivePlan
		leg, breath, want int
	}{
		{"the example", reef(), 0, 20000, 38260}, {"the example", reef(), 1, 20000, 562600}, {"the example", reef(), 2, 20000, 88520}, {"the example", reef(), 3, 20000, 161300},
		{"rounded up", tiny, 0, 1, 1},
		{"a half", tiny, 1, 1000, 1001}, // 1000.5
		{"whole", tiny, 2, 1000, 1000},
		{"all that is greatest", deepest(1000000), 1, 100000, 51833281500}, // 100000 * 62200 * 999999 / 120000
	} {
		n, e := exposure.LegBreath(c.p, c.leg, c.breath)
		expect(t, c.name, n, e, c.want, api.OK)
	}
	p := dive()
	n, e := exposure.LegBreath(p, 0, 1)
	refuse(t, "no legs", n, e, api.ErrMissing)
	someDives(500, func(_ chance, p api.DivePlan, r api.ExposureRules) {
		for i, leg := range p.Legs {
			n, e := exposure.LegBreath(p, i, r.Breath)
			expect(t, flat(p), n, e, breathOf(p, i, r.Breath, leg.Seconds), api.OK)
		}
	})
}

// P5.4: what is breathed of each gas, by numbers, leg by leg.
func TestConsumed(t *testing.T) {
	l, e := exposure.Consumed(reef(), 20000)
	expect(t, "the example", l, e, []int{689380, 161300}, api.OK)
	l, e = exposure.Consumed(dive(), 20000)
	expect(t, "no legs", l, e, []int{0, 0, 0}, api.OK)
	// Gases 0 and 2 are the same, but have numbers of their own; each leg is rounded alone.
	l, e = exposure.Consumed(dive(api.DiveLeg{Seconds: 1}, api.DiveLeg{Seconds: 1}, api.DiveLeg{Seconds: 1, Gas: 2}), 1)
	expect(t, "rounded leg by leg", l, e, []int{2, 0, 1}, api.OK)
	l, e = exposure.Consumed(deepest(1000000), 100000)
	expect(t, "a long plan", l, e, []int{26834 + 51833281500}, api.OK)
}

// P5.4: what is breathed up to a second, also in the middle of a leg.
func TestConsumedAt(t *testing.T) {
	for _, c := range []struct {
		name   string
		p      api.DivePlan
		breath int
		second int
		want   []int
	}{
		{"the begin", reef(), 20000, 0, []int{0, 0}},
		{"the example", reef(), 20000, 30, []int{14630, 0}},
		{"the end of a leg", reef(), 20000, 60, []int{38260, 0}},
		{"a second later", reef(), 20000, 61, []int{38260 + 938, 0}}, // 20000 * 5626 / 120000 = 937.67
		{"the end of a gas", reef(), 20000, 780, []int{689380, 0}},
		{"the next gas", reef(), 20000, 781, []int{689380, 538}}, // 537.67
		{"the end", reef(), 20000, 1080, []int{689380, 161300}},
		{"a pressure that is not whole", dive(api.DiveLeg{Seconds: 7, Depth: 1}), 60000, 1, []int{1001, 0, 0}}, // 1000 and 1/14
		{"no legs", dive(), 1, 0, []int{0, 0, 0}},
		{"near the end of a long leg", deepest(20000), 100000, 19999, []int{26834 + 1036563000}},
	} {
		l, e := exposure.ConsumedAt(c.p, c.breath, c.second)
		expect(t, c.name, l, e, c.want, api.OK)
	}
	for _, legs := range [][]api.DiveLeg{{{Seconds: 20000, Depth: 30000}}, {{Seconds: 1, Depth: 30000}, {Seconds: 19999}}} {
		p := api.DivePlan{Name: "l", Surface: 1100, Gases: []api.Gas{air}, Legs: legs}
		for _, second := range []int{1, 2, 9999, 10000, 19998, 19999, 20000} {
			l, e := exposure.ConsumedAt(p, 100000, second)
			expect(t, flat(second), l, e, consumedAt(p, 100000, second), api.OK)
		}
	}
}

// P5.4, P5.7: second by second it is as the definition says, never falls, and ends with what is breathed.
func TestConsumedAtEverySecond(t *testing.T) {
	someDives(150, func(_ chance, p api.DivePlan, r api.ExposureRules) {
		before := make([]int, len(p.Gases))
		for second := range endOf(p) + 1 {
			l, e := exposure.ConsumedAt(p, r.Breath, second)
			expect(t, flat(p)+flat(second), l, e, consumedAt(p, r.Breath, second), api.OK)
			for i := range before {
				if l[i] < before[i] {
					t.Errorf("%+v, second %d: %v behind %v", p, second, l, before)
				}
			}
			before = l
		}
		l, e := exposure.Consumed(p, r.Breath)
		expect(t, flat(p), l, e, before, api.OK)
	})
}

// P5.7: a leg that is divided in two at a whole depth breathes, and costs, at most 1 more, and not less.
func TestDividedLegs(t *testing.T) {
	more, moving := [2]int{}, 0
	someDives(400, func(_ chance, p api.DivePlan, r api.ExposureRules) {
		clock, e := exposure.ClockOf(p, r)
		if e != api.OK {
			t.Fatalf("%+v: error %d", p, e)
		}
		for i, leg := range p.Legs {
			_, from := begin(p, i)
			for second := 1; second < leg.Seconds; second++ {
				if (leg.Depth-from)*second%leg.Seconds != 0 {
					continue
				}
				q := p
				first, rest := leg, leg
				first.Seconds, first.Depth = second, from+(leg.Depth-from)*second/leg.Seconds
				rest.Seconds -= second
				q.Legs = slices.Concat(p.Legs[:i], []api.DiveLeg{first, rest}, p.Legs[i+1:])
				costs, e := exposure.ClockOf(q, r)
				one, e1 := exposure.LegBreath(q, i, r.Breath)
				two, e2 := exposure.LegBreath(q, i+1, r.Breath)
				all, e3 := exposure.LegBreath(p, i, r.Breath)
				if e != api.OK || e1 != api.OK || e2 != api.OK || e3 != api.OK {
					t.Fatalf("%+v: errors %d, %d, %d, %d", q, e, e1, e2, e3)
				}
				for k, n := range []int{one + two - all, costs[i] + costs[i+1] - clock[i]} {
					if n != 0 && n != 1 {
						t.Errorf("%+v, leg %d divided at %d: %d more (%d)", p, i, second, n, k)
					}
					more[k] += n
				}
				if leg.Depth != from {
					moving++
				}
			}
		}
	})
	if more[0] == 0 || more[1] == 0 || moving == 0 {
		t.Errorf("%v are 1 more, %d of legs that move", more, moving)
	}
}
