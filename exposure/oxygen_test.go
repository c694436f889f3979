package exposure_test

import (
	"math/big"
	"testing"

	"shotline/api"
	"shotline/exposure"
)

// P5.2: the rate is that of the last row from which on the pressure counts.
func TestRateAt(t *testing.T) {
	bare := sample()
	bare.Table = nil
	first := sample()
	first.Table = table(0, 7, 1, 0, 4000, 9)
	for _, c := range []struct {
		r            api.ExposureRules
		oxygen, want int
	}{
		{sample(), 0, 0}, {sample(), 499, 0}, {sample(), 500, 100}, {sample(), 501, 100}, {sample(), 999, 100}, {sample(), 1000, 300}, {sample(), 100000, 300},
		{bare, 0, 0}, {bare, 100000, 0},
		{first, 0, 7}, {first, 1, 0}, {first, 3999, 0}, {first, 4000, 9}, {first, 4001, 9},
	} {
		n, e := exposure.RateAt(c.r, c.oxygen)
		expect(t, flat(c), n, e, c.want, api.OK)
	}
	someDives(100, func(c chance, _ api.DivePlan, r api.ExposureRules) {
		for range 20 {
			oxygen := c.Intn(4000)
			n, e := exposure.RateAt(r, oxygen)
			expect(t, flat(oxygen), n, e, rateOf(r.Table, 1000*oxygen), api.OK)
		}
	})
}

// P5.2: the pressures of oxygen of a leg, whichever way it goes.
func TestOxygenOn(t *testing.T) {
	p := dive(api.DiveLeg{Seconds: 1, Depth: 1000, Gas: 1}, api.DiveLeg{Seconds: 1, Depth: 5, Gas: 2}, api.DiveLeg{Seconds: 1, Depth: 5}, api.DiveLeg{Seconds: 1, Gas: 1})
	for leg, want := range []api.Range{{Lo: 1000, Hi: 2000}, {Lo: 211, Hi: 420}, {Lo: 211, Hi: 212}, {Lo: 1000, Hi: 1005}} {
		o, e := exposure.OxygenOn(p, leg)
		expect(t, flat(leg), o, e, want, api.OK)
	}
	o, e := exposure.OxygenOn(reef(), 0)
	expect(t, "the example", o, e, api.Range{Lo: 212, Hi: 591}, api.OK)
	p.Legs = nil
	o, e = exposure.OxygenOn(p, 0)
	refuse(t, "no legs", o, e, api.ErrMissing)
	someDives(300, func(_ chance, p api.DivePlan, _ api.ExposureRules) {
		for leg := range p.Legs {
			least, most := oxygenOf(p, leg)
			o, e := exposure.OxygenOn(p, leg)
			expect(t, flat(p), o, e, api.Range{Lo: least / 1000, Hi: up(rat(most, 1000))}, api.OK)
		}
	})
}

// P5.2: clocks of legs that stay, that move, and that touch a boundary of rows.
func TestClockOf(t *testing.T) {
	rules := func(t []api.OxygenRow) api.ExposureRules {
		r := sample()
		r.Table = t
		return r
	}
	moving := []api.DiveLeg{{Seconds: 10, Depth: 500, Gas: 1}, {Seconds: 10, Depth: 500, Gas: 1}, {Seconds: 20, Gas: 1}}
	for _, c := range []struct {
		name string
		p    api.DivePlan
		rows []api.OxygenRow
		want []int
	}{
		{"the example", reef(), sample().Table, []int{1441, 60000, 4321, 30000}},
		{"no rows", reef(), nil, []int{0, 0, 0, 0}},
		{"a row from 0", reef(), table(0, 3), []int{180, 1800, 360, 900}},
		{"no legs", dive(), sample().Table, nil},
		{"a row that is just reached", dive(moving...), table(1500, 7), []int{0, 70, 0}},
		{"a row that begins where the leg does", dive(moving...), table(1000, 7), []int{70, 70, 140}},
		{"a row that is left where the leg begins", dive(moving...), table(500, 7, 1000, 0), []int{0, 0, 0}},
		{"a row that is left where the leg ends", dive(moving...), table(500, 7, 1500, 0), []int{70, 0, 140}},
		{"a row in the middle", dive(moving...), table(1200, 5, 1201, 0), []int{1, 0, 1}},
		{"rows one behind the other", dive(moving...), table(1100, 10, 1200, 100, 1300, 1000), []int{4220, 10000, 8440}},
		{"a sum that is rounded but once", dive(moving...), table(1000, 1, 1001, 2, 1002, 3, 1003, 0), []int{1, 0, 1}},
		{"no oxygen", api.DivePlan{Name: "h", Surface: 1000, Gases: []api.Gas{helium}, Legs: moving[:0:0]}, table(0, 9), nil},
		{"no oxygen, moving", api.DivePlan{Name: "h", Surface: 1000, Gases: []api.Gas{helium}, Legs: []api.DiveLeg{{Seconds: 10, Depth: 500}, {Seconds: 5, Depth: 500}}}, table(0, 9, 1, 100), []int{90, 45}},
		{"no oxygen, no row from 0", api.DivePlan{Name: "h", Surface: 1000, Gases: []api.Gas{helium}, Legs: []api.DiveLeg{{Seconds: 10, Depth: 500}}}, table(1, 100), []int{0}},
		{"a leg at the surface", dive(api.DiveLeg{Seconds: 10, Gas: 1}), table(1000, 100), []int{1000}},
		{"a thousandth less than a row", api.DivePlan{Name: "h", Surface: 999, Gases: []api.Gas{{Oxygen: 999}}, Legs: []api.DiveLeg{{Seconds: 10}}}, table(998, 1, 999, 100), []int{10}},
		{"all that is greatest", api.DivePlan{Name: "h", Surface: 1100, Gases: []api.Gas{oxygen}, Legs: []api.DiveLeg{{Seconds: 500000, Depth: 30000}, {Seconds: 500000}}}, table(0, 100000), []int{50000000000, 50000000000}},
		{"all at once", api.DivePlan{Name: "h", Surface: 1100, Gases: []api.Gas{oxygen}, Legs: []api.DiveLeg{{Seconds: 1000000, Depth: 30000}}}, table(0, 99999, 4000, 100000), []int{99999903334}},
	} {
		l, e := exposure.ClockOf(c.p, rules(c.rows))
		expect(t, c.name, l, e, c.want, api.OK)
	}
	someDives(1000, func(_ chance, p api.DivePlan, r api.ExposureRules) {
		var want []int
		for leg := range p.Legs {
			want = append(want, clockOf(p, leg, r.Table))
		}
		l, e := exposure.ClockOf(p, r)
		expect(t, flat(p)+flat(r.Table), l, e, want, api.OK)
	})
}

// P5.2: each whole half time halves what is left, rounded up.
func TestRested(t *testing.T) {
	for _, c := range [][3]int{
		{60000, 5400, 30000}, {60000, 5399, 60000}, {60000, 10799, 30000}, {60000, 10800, 15000}, {1, 5400, 1}, {1, 10000000, 1}, {0, 5400, 0}, {0, 10000000, 0},
		{3, 5400, 2}, {5, 5400, 3}, {5, 10800, 2}, {1000000000000, 0, 1000000000000}, {1000000000000, 5400, 500000000000}, {1000000000000, 10000000, 1},
		{7, 0, 7}, {1 << 39, 5400 * 39, 1}, {1 << 39, 5400*39 - 1, 2}, {1<<39 + 1, 5400 * 39, 2},
	} {
		n, e := exposure.Rested(c[0], c[1])
		expect(t, flat(c), n, e, c[2], api.OK)
	}
}

// P5.2, P5.10: what is left is the clock by a power of 2, rounded up, and of a longer rest it is not more.
func TestRestedLonger(t *testing.T) {
	for _, clock := range []int{0, 1, 2, 3, 1000, 60001, 999999999999, 1000000000000} {
		before := clock
		for seconds := 0; seconds <= 300000; seconds += 300 {
			n, e := exposure.Rested(clock, seconds)
			halved := new(big.Int).Lsh(big.NewInt(1), uint(seconds/5400))
			want := up(new(big.Rat).SetFrac(big.NewInt(int64(clock)), halved))
			expect(t, flat([]int{clock, seconds}), n, e, want, api.OK)
			if n > before {
				t.Errorf("Rested(%d, %d): %d, more than %d", clock, seconds, n, before)
			}
			before = n
		}
	}
}
