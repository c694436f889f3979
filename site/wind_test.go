package site_test

import (
	"math"
	"slices"
	"testing"

	"shotline/api"
	"shotline/site"
)

// steady are n winds, one a minute.
func steady(n int) []api.Wind {
	var l []api.Wind
	for i := range n {
		l = append(l, api.Wind{From: i, Sector: i % 8, Force: i})
	}
	return l
}

// P8.5: what is wrong with a forecast, in the order of its errors.
func TestCheckWinds(t *testing.T) {
	right := []api.Wind{{From: 0, Sector: 7, Force: 200}, {From: 1}, {From: 1000000, Sector: 3, Force: 5}}
	type test struct {
		l []api.Wind
		e api.Errno
	}
	tests := []test{
		{nil, api.ErrShape},
		{right, api.OK},
		{right[2:], api.OK},
		{forecast(), api.OK},
		{steady(60), api.OK},
		{steady(61), api.ErrLarge},
		{make([]api.Wind, 61), api.ErrLarge},
		{slices.Repeat([]api.Wind{{From: -1}}, 61), api.ErrLarge},
		{[]api.Wind{{From: 5}, {From: 5}}, api.ErrOrder},
		{[]api.Wind{{From: 5}, {From: 4}}, api.ErrOrder},
		{[]api.Wind{{From: 5}, {From: 6}, {From: 0}}, api.ErrOrder},
		// The first wind with an error decides, and of its errors the first one.
		{[]api.Wind{{From: 5}, {From: 5}, {From: -1}}, api.ErrOrder},
		{[]api.Wind{{From: 5}, {From: 5, Sector: 8}}, api.ErrRange},
		{[]api.Wind{{From: 5}, {From: 5, Force: -1}}, api.ErrRange},
		{[]api.Wind{{From: 5}, {From: -1}}, api.ErrRange},
	}
	for _, wrong := range []api.Wind{{From: 7, Sector: -1}, {From: 7, Sector: 8}, {From: 7, Force: -1}, {From: 7, Force: 201}, {From: -1}, {From: 1000001},
		{From: math.MinInt}, {From: math.MaxInt}, {From: 7, Sector: math.MaxInt}, {From: 7, Force: math.MinInt}} {
		tests = append(tests, test{[]api.Wind{wrong}, api.ErrRange}, test{[]api.Wind{right[0], right[1], wrong}, api.ErrRange}, test{[]api.Wind{right[0], wrong, {}}, api.ErrRange})
	}
	for _, test := range tests {
		expect(t, "CheckWinds of "+flat(test.l), nil, site.CheckWinds(test.l), nil, test.e)
		if test.e == api.OK {
			continue
		}
		w, e := site.WindAt(test.l, -1)
		refuse(t, "WindAt of "+flat(test.l), w, e, test.e)
		l, e := site.CalmWindows(shelter(), test.l, from(-1, 0))
		refuse(t, "CalmWindows of "+flat(test.l), l, e, test.e)
	}
}

// P8.5: the wind at a minute.
func TestWindAt(t *testing.T) {
	l := []api.Wind{{From: 5, Force: 1}, {From: 6, Sector: 2}, {From: 50, Sector: 4, Force: 30}}
	for minute, want := range map[int]api.Wind{5: l[0], 6: l[1], 7: l[1], 49: l[1], 50: l[2], 51: l[2], 1000000: l[2]} {
		w, e := site.WindAt(l, minute)
		expect(t, "WindAt "+flat(minute), w, e, want, api.OK)
	}
	for minute, wanted := range map[int]api.Errno{0: api.ErrEarly, 4: api.ErrEarly, -1: api.ErrRange, 1000001: api.ErrRange, math.MinInt: api.ErrRange, math.MaxInt: api.ErrRange} {
		w, e := site.WindAt(l, minute)
		refuse(t, "WindAt "+flat(minute), w, e, wanted)
	}
}

// P8.5: when a site is calm.
func TestCalm(t *testing.T) {
	open, closed := api.SiteShelter{Most: [8]int{200, 200, 200, 200, 200, 200, 200, 200}}, api.SiteShelter{}
	var gusts []api.Wind
	for i := range 60 {
		gusts = append(gusts, api.Wind{From: 10 + i*3, Sector: i % 8, Force: 200 * (i % 2)})
	}
	for _, test := range []struct {
		s    api.SiteShelter
		l    []api.Wind
		span api.Range
		want []api.Range
	}{
		{shelter(), forecast(), from(0, 100), list(0, 49)},
		{shelter(), forecast(), from(49, 50), list(49, 49)},
		{shelter(), forecast(), from(50, 2000), nil},
		{shelter(), forecast(), exactly(20), list(20, 20)},
		{shelter(), []api.Wind{{From: 5, Force: 20}, {From: 9, Force: 21}, {From: 12, Sector: 4, Force: 25}, {From: 15, Sector: 4, Force: 26}, {From: 17, Sector: 1, Force: 0}}, from(0, 30), list(5, 8, 12, 14, 17, 30)},
		{open, steady(60)[7:], from(0, 2999), list(7, 2999)},
		{open, forecast(), from(997001, 1000000), list(997001, 1000000)},
		{open, []api.Wind{{From: 1000000}}, from(999999, 1000000), list(1000000, 1000000)},
		{open, []api.Wind{{From: 1000000}}, from(0, 2999), nil},
		{closed, gusts, from(0, 2999), comb(30, 10, 3, 6)},
		{closed, gusts, from(11, 19), list(11, 12, 16, 18)},
	} {
		l, e := site.CalmWindows(test.s, test.l, test.span)
		expect(t, "CalmWindows "+flat(test), l, e, test.want, api.OK)
	}
	for span, wanted := range wrongSpans() {
		l, e := site.CalmWindows(open, []api.Wind{{}}, span)
		var want []api.Range
		if wanted == api.OK {
			want = []api.Range{span}
		}
		expect(t, "CalmWindows "+flat(span), l, e, want, wanted)
	}
	for sector := range 8 {
		for most, wanted := range map[int]api.Errno{math.MinInt: api.ErrRange, -1: api.ErrRange, 0: api.OK, 200: api.OK, 201: api.ErrRange, math.MaxInt: api.ErrRange} {
			s := closed
			s.Most[sector] = most
			_, e := site.CalmWindows(s, forecast(), from(0, 1))
			expect(t, "CalmWindows with "+flat(s), nil, e, nil, wanted)
			if wanted != api.OK {
				l, e := site.CalmWindows(s, nil, from(1, 0))
				refuse(t, "CalmWindows with "+flat(s), l, e, wanted)
			}
		}
	}
}

// P8.5: winds and calm windows, minute by minute.
func TestWindsByChance(t *testing.T) {
	c := newChance(8)
	for range 1000 {
		var winds []api.Wind
		minute := c.upTo(500)
		for range c.from(1, 60) {
			winds = append(winds, api.Wind{From: minute, Sector: c.Intn(8), Force: c.Intn(30)})
			minute += c.from(1, 9)
		}
		var s api.SiteShelter
		for sector := range 8 {
			s.Most[sector] = c.Intn(40)
		}
		span := from(c.Intn(300), c.from(300, 900))
		want, wanted := windowsWhere(span, func(minute int) bool {
			is := false
			for _, w := range winds {
				if w.From <= minute {
					is = w.Force <= s.Most[w.Sector]
				}
			}
			return is
		})
		l, e := site.CalmWindows(s, winds, span)
		expect(t, "CalmWindows of "+flat(winds)+flat(s)+flat(span), l, e, want, wanted)
		for minute := range 900 {
			last, wanted := api.Wind{}, api.ErrEarly
			for _, w := range winds {
				if w.From <= minute {
					last, wanted = w, api.OK
				}
			}
			if w, e := site.WindAt(winds, minute); w != last || e != wanted {
				t.Fatalf("WindAt %d of %+v: %+v, error %d", minute, winds, w, e)
			}
		}
	}
}
