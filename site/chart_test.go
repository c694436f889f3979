package site_test

import (
	"math"
	"slices"
	"testing"

	"shotline/api"
	"shotline/site"
)

// far is a chart of some places in a row, with ways of so many minutes to the neighbours.
func far(places, minutes int) api.SiteChart {
	var c api.SiteChart
	for i := range places {
		c.Places = append(c.Places, string(rune('a'+i)))
		row := slices.Repeat([]int{-1}, places)
		row[i] = 0
		for _, k := range []int{i - 1, i + 1} {
			if k >= 0 && k < places {
				row[k] = minutes
			}
		}
		c.Minutes = append(c.Minutes, row)
	}
	return c
}

// P8.6: what is wrong with a chart, in the order of its errors.
func TestCheckChart(t *testing.T) {
	with := func(spoil func(c *api.SiteChart)) api.SiteChart {
		c := harbour()
		spoil(&c)
		return c
	}
	for _, test := range []struct {
		c api.SiteChart
		e api.Errno
	}{
		{api.SiteChart{}, api.OK},
		{harbour(), api.OK},
		{far(12, 10000), api.OK},
		{far(1, 0), api.OK},
		{far(13, 1), api.ErrLarge},
		{api.SiteChart{Places: make([]string, 13)}, api.ErrLarge},
		{api.SiteChart{Places: make([]string, 12)}, api.ErrName},
		{with(func(c *api.SiteChart) { c.Places[1] = "B-2" }), api.OK},
		{with(func(c *api.SiteChart) { c.Places[2] = "abcdefghijkl" }), api.OK},
		{with(func(c *api.SiteChart) { c.Places[2] = "abcdefghijklm" }), api.ErrName},
		{with(func(c *api.SiteChart) { c.Places[2] = "" }), api.ErrName},
		{with(func(c *api.SiteChart) { c.Places[0] = "2b" }), api.ErrName},
		{with(func(c *api.SiteChart) { c.Places[1] = "b c" }), api.ErrName},
		{with(func(c *api.SiteChart) { c.Places[1] = "A" }), api.OK},
		{with(func(c *api.SiteChart) { c.Places[1] = "a" }), api.ErrExists},
		{with(func(c *api.SiteChart) { c.Places[2] = "a" }), api.ErrExists},
		{with(func(c *api.SiteChart) { c.Places[1], c.Places[2] = "a", "" }), api.ErrExists},
		{with(func(c *api.SiteChart) { c.Places[0], c.Places[2] = "", "b" }), api.ErrName},
		{with(func(c *api.SiteChart) { c.Places[2], c.Minutes = "b", nil }), api.ErrExists},
		{with(func(c *api.SiteChart) { c.Places[2], c.Minutes = "-", nil }), api.ErrName},
		{with(func(c *api.SiteChart) { c.Minutes = nil }), api.ErrShape},
		{with(func(c *api.SiteChart) { c.Minutes = c.Minutes[:2] }), api.ErrShape},
		{with(func(c *api.SiteChart) { c.Minutes = append(c.Minutes, []int{0, 0, 0}) }), api.ErrShape},
		{with(func(c *api.SiteChart) { c.Minutes[0] = nil }), api.ErrShape},
		{with(func(c *api.SiteChart) { c.Minutes[2] = c.Minutes[2][:2] }), api.ErrShape},
		{with(func(c *api.SiteChart) { c.Minutes[1] = append(c.Minutes[1], 5) }), api.ErrShape},
		{with(func(c *api.SiteChart) { c.Minutes[0][0], c.Minutes[2] = 20000, nil }), api.ErrShape},
		{api.SiteChart{Minutes: [][]int{nil}}, api.ErrShape},
		{with(func(c *api.SiteChart) { c.Minutes[0][1] = -1 }), api.OK},
		{with(func(c *api.SiteChart) { c.Minutes[0][1] = 0 }), api.OK},
		{with(func(c *api.SiteChart) { c.Minutes[2][1] = 10000 }), api.OK},
		{with(func(c *api.SiteChart) { c.Minutes[0][1] = -2 }), api.ErrRange},
		{with(func(c *api.SiteChart) { c.Minutes[2][1] = 10001 }), api.ErrRange},
		{with(func(c *api.SiteChart) { c.Minutes[1][2] = math.MinInt }), api.ErrRange},
		{with(func(c *api.SiteChart) { c.Minutes[1][2] = math.MaxInt }), api.ErrRange},
		{with(func(c *api.SiteChart) { c.Minutes[1][1] = -2 }), api.ErrRange},
		{with(func(c *api.SiteChart) { c.Minutes[1][1] = 10001 }), api.ErrRange},
		{with(func(c *api.SiteChart) { c.Minutes[0][0] = 1 }), api.ErrForm},
		{with(func(c *api.SiteChart) { c.Minutes[2][2] = -1 }), api.ErrForm},
		{with(func(c *api.SiteChart) { c.Minutes[1][1], c.Minutes[1][2] = 1, -2 }), api.ErrForm},
		{with(func(c *api.SiteChart) { c.Minutes[1][1], c.Minutes[1][0] = 1, -2 }), api.ErrRange},
		{with(func(c *api.SiteChart) { c.Minutes[1][1], c.Minutes[0][2] = 1, -2 }), api.ErrRange},
		{with(func(c *api.SiteChart) { c.Minutes[1][1], c.Minutes[2][0] = 1, -2 }), api.ErrForm},
	} {
		expect(t, "CheckChart of "+flat(test.c), nil, site.CheckChart(test.c), nil, test.e)
		if test.e == api.OK {
			continue
		}
		l, n, e := site.Way(test.c, -1, 0)
		refuse(t, "Way of "+flat(test.c), l, e, test.e)
		refuse(t, "its minutes", n, e, test.e)
		times, e := site.RunTimes(test.c, api.BoatRun{})
		refuse(t, "RunTimes of "+flat(test.c), times, e, test.e)
		n, e = site.RunFits(test.c, api.BoatRun{}, nil)
		refuse(t, "RunFits of "+flat(test.c), n, e, test.e)
	}
}

// P8.6: the way of the example, ways to a place itself, one-way charts, and ways of no time.
func TestWays(t *testing.T) {
	shut := far(4, 7)
	shut.Minutes[2][1] = -1
	for _, test := range []struct {
		c        api.SiteChart
		from, to int
		places   []int
		minutes  int
	}{
		{harbour(), 0, 2, []int{0, 1, 2}, 20},
		{harbour(), 2, 0, []int{2, 1, 0}, 20},
		{harbour(), 0, 1, []int{0, 1}, 10},
		{harbour(), 1, 1, []int{1}, 0},
		{far(1, 0), 0, 0, []int{0}, 0},
		{far(12, 10000), 0, 11, []int{0, 1, 2, 3, 4, 5, 6, 7, 8, 9, 10, 11}, 110000},
		{far(12, 10000), 11, 0, []int{11, 10, 9, 8, 7, 6, 5, 4, 3, 2, 1, 0}, 110000},
		{far(12, 0), 3, 5, []int{3, 4, 5}, 0},
		{shut, 0, 3, []int{0, 1, 2, 3}, 21},
		{shut, 3, 2, []int{3, 2}, 7},
	} {
		l, n, e := site.Way(test.c, test.from, test.to)
		expect(t, "Way of "+flat(test), l, e, test.places, api.OK)
		expect(t, "its minutes", n, e, test.minutes, api.OK)
	}
	for _, test := range []struct {
		c        api.SiteChart
		from, to int
		e        api.Errno
	}{
		{shut, 3, 0, api.ErrNone},
		{shut, 2, 1, api.ErrNone},
		{harbour(), -1, 0, api.ErrMissing},
		{harbour(), 3, 0, api.ErrMissing},
		{harbour(), 0, -1, api.ErrMissing},
		{harbour(), 0, 3, api.ErrMissing},
		{harbour(), 3, 3, api.ErrMissing},
		{harbour(), math.MinInt, 0, api.ErrMissing},
		{harbour(), 0, math.MaxInt, api.ErrMissing},
		{api.SiteChart{}, 0, 0, api.ErrMissing},
	} {
		l, n, e := site.Way(test.c, test.from, test.to)
		refuse(t, "Way of "+flat(test), l, e, test.e)
		refuse(t, "its minutes", n, e, test.e)
	}
}

// P8.6, P8.12: no way takes less, by however many places, and a way is as it says.
func TestWaysByChance(t *testing.T) {
	c := newChance(9)
	none := 0
	for range 500 {
		x := c.chart(c.from(1, 12))
		least := leastMinutes(x)
		for i := range x.Places {
			for k := range x.Places {
				l, n, e := site.Way(x, i, k)
				if least[i][k] < 0 {
					none++
					refuse(t, "Way of "+flat(x), l, e, api.ErrNone)
					continue
				}
				expect(t, "the minutes of a way of "+flat(x), n, e, least[i][k], api.OK)
				checkWay(t, x, [2]int{i, k}, l, n)
			}
		}
	}
	if none < 500 {
		t.Errorf("there were only %d places without a way between", none)
	}
}

// leastMinutes returns the least minutes of all ways by at most so many places as there are, -1 where there is none: of
// ways by twice as many places each time.
func leastMinutes(c api.SiteChart) [][]int {
	least := c.Minutes
	for range 4 {
		var longer [][]int
		for i := range least {
			row := slices.Clone(least[i])
			for k := range row {
				for by := range least {
					if a, b := least[i][by], least[by][k]; a >= 0 && b >= 0 && (row[k] < 0 || a+b < row[k]) {
						row[k] = a + b
					}
				}
			}
			longer = append(longer, row)
		}
		least = longer
	}
	return least
}

// checkWay checks that a way goes from one place to another one, by no place twice, and that a run along it takes its minutes.
func checkWay(t *testing.T, c api.SiteChart, ends [2]int, l []int, minutes int) {
	t.Helper()
	sorted := slices.Compact(slices.Sorted(slices.Values(l)))
	if len(l) == 0 || l[0] != ends[0] || l[len(l)-1] != ends[1] || len(sorted) != len(l) {
		t.Errorf("the way %v between %v in %+v", l, ends, c)
		return
	}
	run := api.BoatRun{Begin: 7, Places: l, Stay: make([]int, len(l))}
	times, e := site.RunTimes(c, run)
	if end := [2]int{7 + minutes, 7 + minutes}; e != api.OK || len(times) != len(l) || times[len(l)-1] != end {
		t.Errorf("a run along %v, of %d minutes: %v, error %d", l, minutes, times, e)
	}
}
