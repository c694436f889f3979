package exposure_test

import (
	"testing"

	"shotline/api"
	"shotline/exposure"
)

// P5.5: the escape, rounded up once.
func TestEscapeFrom(t *testing.T) {
	change := func(emergency, pause, ascent int) api.ExposureRules {
		r := sample()
		r.Emergency, r.Pause, r.Ascent = emergency, pause, ascent
		return r
	}
	for _, c := range []struct {
		name                 string
		r                    api.ExposureRules
		surface, depth, want int
	}{
		{"the example", sample(), 1013, 1800, 250256},
		{"the pause alone", sample(), 1013, 0, 40520},
		{"the ascent alone", change(40000, 0, 1000), 1013, 1800, 137736},
		{"nothing", change(40000, 0, 1000), 1013, 0, 0},
		{"both parts are rounded together", change(1, 1, 1000), 1000, 1000, 2}, // 0.03 and 1.5
		{"a pause that is not whole", change(1, 60, 1), 1001, 0, 2},            // 1.001
		{"more than whole together", change(1000, 30, 3000), 1000, 1000, 1500}, // 1000 and 500
		{"a little more than whole", change(1000, 30, 2999), 1000, 1000, 1501}, // 1000 and 500.17
		{"all that is greatest", change(100000, 3600, 1), 1100, 30000, 48486600000},
	} {
		n, e := exposure.EscapeFrom(c.r, c.surface, c.depth)
		expect(t, c.name, n, e, c.want, api.OK)
	}
	for _, r := range []api.ExposureRules{change(100000, 3600, 3000), change(100000, 0, 1), change(99999, 3599, 2999)} {
		for _, surface := range []int{400, 1100} {
			for _, depth := range []int{0, 1, 29999, 30000} {
				n, e := exposure.EscapeFrom(r, surface, depth)
				expect(t, flat([]int{surface, depth}), n, e, escapeOf(r, surface, depth), api.OK)
			}
		}
	}
}

// P5.5, P5.9: of many depths, as the definition says it; from a greater one it is not less.
func TestEscapeFromGreaterDepth(t *testing.T) {
	someDives(200, func(c chance, p api.DivePlan, r api.ExposureRules) {
		before, depth := 0, 0
		for depth <= 30000 {
			n, e := exposure.EscapeFrom(r, p.Surface, depth)
			expect(t, flat(r)+flat(depth), n, e, escapeOf(r, p.Surface, depth), api.OK)
			if n < before {
				t.Errorf("%+v, depth %d: %d, less than %d above", r, depth, n, before)
			}
			before = n
			depth += c.from(1, 1000)
		}
	})
}

// P5.5: the need is of the gas of the second, with the depth rounded up.
func TestNeedAt(t *testing.T) {
	slow := dive(api.DiveLeg{Seconds: 7, Depth: 1800})
	for _, c := range []struct {
		name           string
		p              api.DivePlan
		second         int
		number, amount int
	}{
		{"the begin", reef(), 0, 0, 40520},
		{"the example", reef(), 660, 0, 851116},
		{"the last second of a gas", reef(), 780, 0, 689380 + 96032},
		{"the first second of the next one", reef(), 781, 1, 538 + 96032},
		{"the end", reef(), 1080, 1, 161300 + 96032},
		{"a depth that is not whole", slow, 1, 0, 377 + escapeOf(sample(), 1000, 258)}, // 257.14; 20000 * 2257.14 / 120000 = 376.19
	} {
		number, amount, e := exposure.NeedAt(c.p, sample(), c.second)
		expect(t, c.name, [2]int{number, amount}, e, [2]int{c.number, c.amount}, api.OK)
	}
	for second, want := range map[int]api.Errno{0: api.ErrNone, 1: api.ErrRange, -1: api.ErrRange} {
		number, amount, e := exposure.NeedAt(dive(), sample(), second)
		refuse(t, "no legs", [2]int{number, amount}, e, want)
	}
}

// P5.5: the greatest need of each gas, and the first second of it.
func TestReserves(t *testing.T) {
	l, e := exposure.Reserves(reef(), sample())
	expect(t, "the example", l, e, reservesOf(reef(), sample()), api.OK)
	l, e = exposure.Reserves(dive(), sample())
	expect(t, "no legs", l, e, []api.GasNeed{{Second: -1}, {Second: -1}, {Second: -1}}, api.OK)
	// Ten seconds at the surface breathe 1 together: the last amount comes first at the second 1.
	idle := sample()
	idle.Breath, idle.Pause = 1, 0
	p := dive(api.DiveLeg{Seconds: 10, Gas: 1}, api.DiveLeg{Seconds: 10, Gas: 1})
	l, e = exposure.Reserves(p, idle)
	expect(t, "the first of several seconds", l, e, []api.GasNeed{{Second: -1}, {Amount: 2, Second: 11}, {Second: -1}}, api.OK)
	// The gas that is needed at a lesser second is needed less later, when its depth is less.
	up := dive(api.DiveLeg{Seconds: 60, Depth: 5000}, api.DiveLeg{Seconds: 60})
	l, e = exposure.Reserves(up, idle)
	expect(t, "the deepest second", l, e, []api.GasNeed{{Amount: 4 + escapeOf(idle, 1000, 5000), Second: 60}, {Second: -1}, {Second: -1}}, api.OK)
	most := sample()
	most.Breath = 100000
	l, e = exposure.Reserves(deepest(20000), most)
	if n := l[0].Amount; e != api.OK || n <= api.MaxAmount || l[0].Second != 20000 {
		t.Errorf("more than there can be: %v, error %d", l, e)
	}
	number, amount, e := exposure.NeedAt(deepest(20000), most, 20000)
	expect(t, "more than there can be", [2]int{number, amount}, e, [2]int{0, l[0].Amount}, api.OK)
}

// reservesOf returns the reserves, by the needs second by second.
func reservesOf(p api.DivePlan, r api.ExposureRules) []api.GasNeed {
	l := make([]api.GasNeed, len(p.Gases))
	for i := range l {
		l[i].Second = -1
	}
	for second := range endOf(p) + 1 {
		if number, amount := needOf(p, r, second); l[number].Second < 0 || amount > l[number].Amount {
			l[number] = api.GasNeed{Amount: amount, Second: second}
		}
	}
	return l
}

// P5.5, P5.6, P5.9: of many plans, second by second.
func TestNeedsOfMany(t *testing.T) {
	last := map[string]int{}
	someDives(120, func(c chance, p api.DivePlan, r api.ExposureRules) {
		for second := range endOf(p) + 1 {
			number, amount := needOf(p, r, second)
			gotNumber, gotAmount, e := exposure.NeedAt(p, r, second)
			expect(t, flat(p)+flat(r)+flat(second), [2]int{gotNumber, gotAmount}, e, [2]int{number, amount}, api.OK)
		}
		l, e := exposure.Reserves(p, r)
		expect(t, flat(p)+flat(r), l, e, reservesOf(p, r), api.OK)
		amounts := make([]int, len(p.Gases))
		for i, need := range l {
			amounts[i] = min(need.Amount, api.MaxAmount)
		}
		checkShort(t, p, r, amounts)
		for i, need := range l {
			if need.Second >= 0 {
				amounts[i]--
				last[checkShort(t, p, r, amounts)]++
				n, e := exposure.Survives(p, r, amounts)
				expect(t, "with 1 less", n, e, need.Second, api.ErrBreak)
				amounts[i]++
			}
		}
		for i := range amounts {
			amounts[i] = c.Intn(amounts[i] + 1)
		}
		last[checkShort(t, p, r, amounts)]++
	})
	if last["at once"] == 0 || last["later"] == 0 {
		t.Errorf("seconds that are not survived: %v", last)
	}
}

// checkShort checks Survives and LastTurn, and returns when a plan is not survived.
func checkShort(t *testing.T, p api.DivePlan, r api.ExposureRules, amounts []int) string {
	t.Helper()
	short := 0
	for short <= endOf(p) {
		if number, amount := needOf(p, r, short); amount > amounts[number] {
			break
		}
		short++
	}
	what := flat(p) + flat(r) + flat(amounts)
	n, e := exposure.Survives(p, r, amounts)
	turn, e2 := exposure.LastTurn(p, r, amounts)
	switch {
	case short > endOf(p):
		expect(t, what, n, e, endOf(p), api.OK)
		expect(t, what, turn, e2, endOf(p), api.OK)
		return "never"
	case short == 0:
		expect(t, what, n, e, 0, api.ErrBreak)
		refuse(t, what, turn, e2, api.ErrNone)
		return "at once"
	}
	expect(t, what, n, e, short, api.ErrBreak)
	expect(t, what, turn, e2, short-1, api.OK)
	return "later"
}

// P5.6: the first second that is not survived, and the last one up to which all are.
func TestSurvives(t *testing.T) {
	greatest := reservesOf(reef(), sample())
	for _, c := range []struct {
		name           string
		p              api.DivePlan
		amounts        []int
		survives, turn int
		e, e2          api.Errno
	}{
		{"just enough", reef(), []int{greatest[0].Amount, greatest[1].Amount}, 1080, 1080, api.OK, api.OK},
		{"1 less of the first gas", reef(), []int{greatest[0].Amount - 1, greatest[1].Amount}, greatest[0].Second, greatest[0].Second - 1, api.ErrBreak, api.OK},
		{"1 less of the second gas", reef(), []int{greatest[0].Amount, greatest[1].Amount - 1}, 1080, 1079, api.ErrBreak, api.OK},
		{"nothing of the second gas", reef(), []int{greatest[0].Amount, 0}, 781, 780, api.ErrBreak, api.OK},
		{"nothing of the first gas", reef(), []int{0, greatest[1].Amount}, 0, 0, api.ErrBreak, api.ErrNone},
		{"just enough for the second 0", reef(), []int{40520, 0}, 1, 0, api.ErrBreak, api.OK},
		{"no legs", dive(), []int{0, 0, 0}, 0, 0, api.OK, api.OK},
		{"a gas that is not needed", dive(api.DiveLeg{Seconds: 1}), []int{1000000, 0, 0}, 1, 1, api.OK, api.OK},
	} {
		n, e := exposure.Survives(c.p, sample(), c.amounts)
		expect(t, c.name, n, e, c.survives, c.e)
		n, e = exposure.LastTurn(c.p, sample(), c.amounts)
		expect(t, c.name, n, e, c.turn, c.e2)
	}
	for _, c := range []struct {
		amounts []int
		want    api.Errno
	}{
		{nil, api.ErrShape}, {[]int{}, api.ErrShape}, {[]int{-1}, api.ErrShape}, {[]int{1, 2, 3}, api.ErrShape},
		{[]int{-1, 0}, api.ErrRange}, {[]int{0, 1000000001}, api.ErrRange},
	} {
		for _, p := range []api.DivePlan{reef(), {Name: "n", Surface: 1000, Gases: reef().Gases}} {
			n, e := exposure.Survives(p, sample(), c.amounts)
			refuse(t, flat(c.amounts), n, e, c.want)
			n, e = exposure.LastTurn(p, sample(), c.amounts)
			refuse(t, flat(c.amounts), n, e, c.want)
		}
	}
}
