package gas_test

import (
	"testing"

	"shotline/api"
	"shotline/gas"
)

// P1.6: rounded down; the ends of the ranges, and outside.
func TestHeld(t *testing.T) {
	for _, c := range []struct {
		size, pressure, want int
		wanted               api.Errno
	}{
		{12000, 200000, 2400000, api.OK}, {1, 999, 0, api.OK}, {1, 1000, 1, api.OK}, {3, 333, 0, api.OK}, {7, 1999, 13, api.OK},
		{12000, 0, 0, api.OK}, {100000, 400000, 40000000, api.OK}, {1, 400000, 400, api.OK},
		{0, 200000, 0, api.ErrRange}, {-1, 200000, 0, api.ErrRange}, {100001, 200000, 0, api.ErrRange},
		{12000, -1, 0, api.ErrRange}, {12000, 400001, 0, api.ErrRange},
	} {
		n, e := gas.Held(c.size, c.pressure)
		expect(t, call("Held", c.size, c.pressure), n, e, c.want, c.wanted)
	}
}

// P1.6: rounded down and up; the ends of the ranges, and outside.
func TestPressureOf(t *testing.T) {
	for _, c := range []struct {
		size, amount int
		want         api.Range
		wanted       api.Errno
	}{
		{12000, 2400000, api.Range{Lo: 200000, Hi: 200000}, api.OK},
		{12000, 2400001, api.Range{Lo: 200000, Hi: 200001}, api.OK},
		{12000, 2399999, api.Range{Lo: 199999, Hi: 200000}, api.OK},
		{100000, 1, api.Range{Lo: 0, Hi: 1}, api.OK},
		{12000, 0, api.Range{}, api.OK},
		{1, 1000000000, api.Range{Lo: 1000000000000, Hi: 1000000000000}, api.OK},
		{100000, 1000000000, api.Range{Lo: 10000000, Hi: 10000000}, api.OK},
		{0, 1, api.Range{}, api.ErrRange}, {-1, 1, api.Range{}, api.ErrRange}, {100001, 1, api.Range{}, api.ErrRange},
		{12000, -1, api.Range{}, api.ErrRange}, {12000, 1000000001, api.Range{}, api.ErrRange},
	} {
		r, e := gas.PressureOf(c.size, c.amount)
		expect(t, call("PressureOf", c.size, c.amount), r, e, c.want, c.wanted)
	}
}

// P1.9: what a cylinder holds by a pressure (without rounding) has this pressure; what it holds at the ends of PressureOf lies around the amount.
func TestPressureOfHeld(t *testing.T) {
	for _, size := range []int{1, 3, 7, 999, 1000, 11100, 12000, 99999, 100000} {
		for _, pressure := range []int{0, 1, 7, 1000, 1013, 123456, 200000, 399999, 400000} {
			held, e := gas.Held(size, pressure)
			if e != api.OK || held != size*pressure/1000 {
				t.Errorf("Held(%d, %d): %d, error %d", size, pressure, held, e)
			}
			r, e := gas.PressureOf(size, held)
			expect(t, call("PressureOf", size, held), r, e, around(1000*held, size, 0), api.OK)
			if size*pressure%1000 == 0 && (r.Lo != pressure || r.Hi != pressure) {
				t.Errorf("PressureOf(%d, %d): %v, want %d", size, held, r, pressure)
			}
			low, e := gas.Held(size, r.Lo)
			high, f := gas.Held(size, r.Hi)
			if e != api.OK || f != api.OK || low > held || high < held {
				t.Errorf("PressureOf(%d, %d): %v, where it holds %d to %d", size, held, r, low, high)
			}
		}
	}
}

// P1.6: weights that are whole numbers, others between two of them, and errors.
func TestWeightOf(t *testing.T) {
	for _, c := range []struct {
		g      api.Gas
		amount int
		want   api.Range
		wanted api.Errno
	}{
		{air, 1013, api.Range{Lo: 1288, Hi: 1289}, api.OK},
		{oxygen, 1013, api.Range{Lo: 1429, Hi: 1429}, api.OK},
		{helium, 2026, api.Range{Lo: 358, Hi: 358}, api.OK},
		{api.Gas{}, 1013, api.Range{Lo: 1251, Hi: 1251}, api.OK},
		{air, 2400000, api.Range{Lo: 3052430, Hi: 3052431}, api.OK},
		{air, 0, api.Range{}, api.OK},
		{oxygen, 1000000000, api.Range{Lo: 1410661401, Hi: 1410661402}, api.OK},
		{air, -1, api.Range{}, api.ErrRange}, {air, 1000000001, api.Range{}, api.ErrRange},
		{wideGas, 1, api.Range{}, api.ErrRange}, {fullGas, 1, api.Range{}, api.ErrSum}, {fullGas, -1, api.Range{}, api.ErrSum},
	} {
		r, e := gas.WeightOf(c.g, c.amount)
		expect(t, call("WeightOf", c.g, c.amount), r, e, c.want, c.wanted)
	}
	someGases(70, func(g api.Gas) {
		for _, amount := range []int{1, 1000, 100001, 2400000, 999999999} {
			r, e := gas.WeightOf(g, amount)
			weight := 1429*g.Oxygen + 179*g.Helium + 1251*nitrogen(g)
			expect(t, call("WeightOf", g, amount), r, e, around(weight*amount, 1013000, 0), api.OK)
		}
	})
}
