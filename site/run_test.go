package site_test

import (
	"math"
	"slices"
	"testing"

	"shotline/api"
	"shotline/site"
)

func run(begin int, places, stay []int) api.BoatRun {
	return api.BoatRun{Begin: begin, Places: places, Stay: stay}
}

// P8.7: what is wrong with a run, in the order of its errors.
func TestWrongRuns(t *testing.T) {
	oneWay := harbour()
	oneWay.Minutes[1][0] = -1
	for _, test := range []struct {
		r api.BoatRun
		e api.Errno
	}{
		{tour(), api.OK},
		{run(0, []int{0}, []int{0}), api.OK},
		{run(1000000, []int{0}, []int{10000}), api.OK},
		{run(0, make([]int, 12), make([]int, 12)), api.OK},
		{run(0, []int{0, 1}, []int{0, 0}), api.OK},
		{run(0, nil, nil), api.ErrShape},
		{run(-1, nil, []int{0}), api.ErrShape},
		{run(0, []int{0, 1}, []int{0}), api.ErrShape},
		{run(0, []int{0, 1}, []int{0, 0, 0}), api.ErrShape},
		{run(0, []int{0}, nil), api.ErrShape},
		{run(0, make([]int, 13), make([]int, 12)), api.ErrShape},
		{run(0, make([]int, 13), make([]int, 13)), api.ErrLarge},
		{run(-1, slices.Repeat([]int{-1}, 13), make([]int, 13)), api.ErrLarge},
		{run(-1, []int{0}, []int{0}), api.ErrRange},
		{run(1000001, []int{0}, []int{0}), api.ErrRange},
		{run(math.MinInt, []int{0}, []int{0}), api.ErrRange},
		{run(math.MaxInt, []int{0}, []int{0}), api.ErrRange},
		{run(-1, []int{7}, []int{0}), api.ErrRange},
		{run(0, []int{-1}, []int{0}), api.ErrMissing},
		{run(0, []int{3}, []int{0}), api.ErrMissing},
		{run(0, []int{0, math.MaxInt}, []int{0, 0}), api.ErrMissing},
		{run(0, []int{math.MinInt, 0}, []int{0, 0}), api.ErrMissing},
		{run(0, []int{0, 3}, []int{0, -1}), api.ErrMissing},
		{run(0, []int{0, 3}, []int{-1, 0}), api.ErrRange},
		{run(0, []int{0}, []int{-1}), api.ErrRange},
		{run(0, []int{0}, []int{10001}), api.ErrRange},
		{run(0, []int{0, 1}, []int{0, math.MaxInt}), api.ErrRange},
		{run(0, []int{0, 1}, []int{0, math.MinInt}), api.ErrRange},
		{run(0, []int{1, 0}, []int{0, 0}), api.ErrGap},
		{run(0, []int{0, 1, 0}, []int{0, 0, 0}), api.ErrGap},
		{run(0, []int{1, 0}, []int{0, 10001}), api.ErrRange},
		{run(0, []int{1, 0, 3}, []int{0, 0, 0}), api.ErrGap},
		{run(0, []int{1, 0, 1}, []int{0, 0, -1}), api.ErrGap},
	} {
		times, e := site.RunTimes(oneWay, test.r)
		n, e2 := site.RunFits(oneWay, test.r, nil)
		if test.e == api.OK {
			expect(t, "RunTimes of "+flat(test.r), nil, e, nil, api.OK)
			refuse(t, "RunFits of "+flat(test.r), n, e2, api.ErrShape)
			continue
		}
		refuse(t, "RunTimes of "+flat(test.r), times, e, test.e)
		refuse(t, "RunFits of "+flat(test.r), n, e2, test.e)
	}
}

// P8.7: when a run arrives, and when it leaves.
func TestRunTimes(t *testing.T) {
	for _, test := range []struct {
		r    api.BoatRun
		want [][2]int
	}{
		{tour(), [][2]int{{100, 100}, {110, 115}, {125, 130}}},
		{run(0, []int{0, 2}, []int{3, 4}), [][2]int{{0, 3}, {33, 37}}},
		{run(5, []int{1}, []int{7}), [][2]int{{5, 12}}},
		// A run may stay on at its place, and go back.
		{run(5, []int{1, 1, 0, 1}, []int{1, 2, 3, 4}), [][2]int{{5, 6}, {6, 8}, {18, 21}, {31, 35}}},
		{run(1000000, []int{0, 1}, []int{10000, 10000}), [][2]int{{1000000, 1010000}, {1010010, 1020010}}},
	} {
		l, e := site.RunTimes(harbour(), test.r)
		expect(t, "RunTimes of "+flat(test.r), l, e, test.want, api.OK)
	}
	oneWay := api.SiteChart{Places: []string{"a", "b"}, Minutes: [][]int{{0, 3}, {4, 0}}}
	l, e := site.RunTimes(oneWay, run(0, []int{0, 1, 0}, []int{0, 0, 0}))
	expect(t, "RunTimes there and back", l, e, [][2]int{{0, 0}, {3, 3}, {7, 7}}, api.OK)
}

// P8.7: whether each stop has a window that contains it, and the number of the first one that has none.
func TestRunFits(t *testing.T) {
	with := func(stop int, l []api.Range) [][]api.Range {
		windows := stops()
		windows[stop] = l
		return windows
	}
	for _, test := range []struct {
		windows [][]api.Range
		n       int
		e       api.Errno
	}{
		{stops(), 130, api.OK},
		{with(2, list(120, 128)), 2, api.ErrClash},
		{with(2, list(120, 129)), 2, api.ErrClash},
		{with(2, list(125, 130)), 130, api.OK},
		{with(2, list(126, 130)), 2, api.ErrClash},
		{with(0, list(100, 100)), 130, api.OK},
		{with(0, list(99, 99)), 0, api.ErrClash},
		{with(0, list(101, 200)), 0, api.ErrClash},
		{with(0, nil), 0, api.ErrClash},
		{with(1, nil), 1, api.ErrClash},
		{with(1, list(0, 5, 110, 115, 120, 200)), 130, api.OK},
		{with(1, list(0, 5, 120, 200, 1000000, 1000000)), 1, api.ErrClash},
		{with(1, list(0, 112, 114, 200)), 1, api.ErrClash},
		// The windows of the other stops do not help.
		{[][]api.Range{list(90, 130), list(90, 130), nil}, 2, api.ErrClash},
		{[][]api.Range{list(110, 130), list(90, 130), list(90, 130)}, 0, api.ErrClash},
		// There must be a list for each stop.
		{nil, 0, api.ErrShape},
		{stops()[:2], 0, api.ErrShape},
		{append(stops(), nil), 0, api.ErrShape},
		{[][]api.Range{list(5, 4)}, 0, api.ErrShape},
		// Stop by stop: the error of its windows, then whether they contain it.
		{with(0, list(5, 4)), 0, api.ErrOrder},
		{with(1, list(110, 115, 116, 200)), 1, api.ErrClash},
		{with(1, list(110, 115, 300, 200)), 1, api.ErrOrder},
		{with(1, list(110, 115, 300, 1000001)), 1, api.ErrRange},
		{with(2, comb(61, 0, 1, 5)), 2, api.ErrLarge},
		{with(2, list(-1, 1000)), 2, api.ErrRange},
		{[][]api.Range{nil, list(5, 4), nil}, 0, api.ErrClash},
		{[][]api.Range{list(100, 100), list(5, 4), list(-1, 0)}, 1, api.ErrOrder},
		{[][]api.Range{list(100, 100), nil, list(5, 4)}, 1, api.ErrClash},
	} {
		n, e := site.RunFits(harbour(), tour(), test.windows)
		expect(t, "RunFits of "+flat(test.windows), n, e, test.n, test.e)
	}
}

// P8.7: a run that leaves behind the last minute is in no window.
func TestRunsBehindAllMinutes(t *testing.T) {
	whole := list(0, 1000000)
	for _, test := range []struct {
		r       api.BoatRun
		windows [][]api.Range
		n       int
		e       api.Errno
	}{
		{run(1000000, []int{0}, []int{0}), [][]api.Range{whole}, 1000000, api.OK},
		{run(1000000, []int{0}, []int{1}), [][]api.Range{whole}, 0, api.ErrClash},
		{run(999985, []int{0, 1}, []int{0, 5}), [][]api.Range{whole, whole}, 1000000, api.OK},
		{run(999985, []int{0, 1}, []int{0, 6}), [][]api.Range{whole, whole}, 1, api.ErrClash},
		{run(999991, []int{0, 1}, []int{0, 0}), [][]api.Range{whole, whole}, 1, api.ErrClash},
	} {
		n, e := site.RunFits(harbour(), test.r, test.windows)
		expect(t, "RunFits of "+flat(test.r), n, e, test.n, test.e)
	}
}

// P8.7: runs minute by minute.
func TestRunsByChance(t *testing.T) {
	c := newChance(10)
	fits, clashes := 0, 0
	for range 4000 {
		x := c.chart(c.from(1, 6))
		r := api.BoatRun{Begin: c.Intn(30)}
		var windows [][]api.Range
		for range c.from(1, 5) {
			r.Places, r.Stay = append(r.Places, c.Intn(len(x.Places))), append(r.Stay, c.Intn(4))
			l := list(0, c.Intn(400))
			if c.Intn(3) == 0 {
				l = slices.Concat(c.windows(3, 0), list(30, 30+c.Intn(300)))
			}
			windows = append(windows, l)
		}
		times, e := site.RunTimes(x, r)
		var want [][2]int
		wanted, fit, n := api.OK, api.OK, r.Begin
		for i, place := range r.Places {
			if i > 0 && x.Minutes[r.Places[i-1]][place] == -1 {
				want, wanted = nil, api.ErrGap
				break
			}
			if i > 0 {
				n += x.Minutes[r.Places[i-1]][place]
			}
			want = append(want, [2]int{n, n + r.Stay[i]})
			n += r.Stay[i]
		}
		expect(t, "RunTimes of "+flat(x)+flat(r), times, e, want, wanted)
		for i, at := range slices.Backward(want) {
			if site.CheckWindows(windows[i]) != api.OK {
				n, fit = i, site.CheckWindows(windows[i])
			} else if !allIn(windows[i], at[0], at[1]-at[0]+1) {
				n, fit = i, api.ErrClash
			}
		}
		if wanted != api.OK {
			n, fit = 0, wanted
		}
		switch fit {
		case api.OK:
			fits++
		case api.ErrClash:
			clashes++
		}
		got, e := site.RunFits(x, r, windows)
		expect(t, "RunFits of "+flat(x)+flat(r)+flat(windows), got, e, n, fit)
	}
	if fits < 300 || clashes < 300 {
		t.Errorf("%d runs fit, %d do not", fits, clashes)
	}
}
