package site_test

import (
	"math"
	"testing"

	"shotline/api"
	"shotline/site"
)

// wrongWindows are lists with their errors.
func wrongWindows() []struct {
	l []api.Range
	e api.Errno
} {
	return []struct {
		l []api.Range
		e api.Errno
	}{
		{comb(61, 0, 1, 2), api.ErrLarge},
		{comb(61, -5, 1, 0), api.ErrLarge},
		{list(-1, 5), api.ErrRange},
		{list(5, 1000001), api.ErrRange},
		{list(1000001, 5), api.ErrRange},
		{list(5, -1), api.ErrRange},
		{list(math.MinInt, math.MaxInt), api.ErrRange},
		{list(math.MaxInt, math.MinInt), api.ErrRange},
		{list(0, 5, 7, math.MaxInt), api.ErrRange},
		{list(5, 4), api.ErrOrder},
		{list(1000000, 0), api.ErrOrder},
		{list(0, 10, 11, 20), api.ErrClash},
		{list(0, 10, 10, 20), api.ErrClash},
		{list(0, 10, 5, 7), api.ErrClash},
		{list(20, 30, 0, 10), api.ErrClash},
		{list(0, 1000000, 1000000, 1000000), api.ErrClash},
		// The first window with an error decides, and of its errors the first one.
		{list(5, 4, -1, 0), api.ErrOrder},
		{list(-1, 4, 5, 4), api.ErrRange},
		{list(0, 10, 11, -1), api.ErrRange},
		{list(0, 10, 5, 4), api.ErrOrder},
		{list(0, 10, 11, 20, 5, 4), api.ErrClash},
		{list(0, 10, 12, 20, 21, 22), api.ErrClash},
	}
}

// rightWindows are lists without an error.
func rightWindows() [][]api.Range {
	return [][]api.Range{nil, list(0, 0), list(0, 1000000), list(1000000, 1000000), list(0, 10, 12, 20), list(0, 0, 2, 2, 4, 999998, 1000000, 1000000), comb(60, 0, 1, 2), comb(60, 5, 16000, 16600)}
}

// P8.4: what is wrong with windows, in the order of its errors.
func TestCheckWindows(t *testing.T) {
	for _, l := range rightWindows() {
		expect(t, "CheckWindows of "+flat(l), nil, site.CheckWindows(l), nil, api.OK)
	}
	right := list(5, 25)
	for _, test := range wrongWindows() {
		expect(t, "CheckWindows of "+flat(test.l), nil, site.CheckWindows(test.l), nil, test.e)
		for _, call := range []func(a, b []api.Range) ([]api.Range, api.Errno){site.Meet, site.Join} {
			l, e := call(test.l, right)
			refuse(t, "Meet or Join of "+flat(test.l), l, e, test.e)
			l, e = call(right, test.l)
			refuse(t, "Meet or Join of "+flat(test.l), l, e, test.e)
			l, e = call(test.l, list(6, 5))
			refuse(t, "Meet or Join of "+flat(test.l), l, e, test.e)
		}
		l, e := site.Longer(test.l, 0)
		refuse(t, "Longer of "+flat(test.l), l, e, test.e)
		n, e := site.FirstFit(test.l, -1, 0)
		refuse(t, "FirstFit of "+flat(test.l), n, e, test.e)
	}
}

// P8.4: minutes of both, and of one of both.
func TestMeetAndJoin(t *testing.T) {
	for _, test := range []struct{ a, b, meet, join []api.Range }{
		{list(0, 10, 20, 30), list(5, 25), list(5, 10, 20, 25), list(0, 30)},
		{list(0, 10), list(11, 20), nil, list(0, 20)},
		{list(0, 10), list(12, 20), nil, list(0, 10, 12, 20)},
		{list(0, 10), list(10, 20), list(10, 10), list(0, 20)},
		{nil, nil, nil, nil},
		{list(3, 4), nil, nil, list(3, 4)},
		{list(0, 1000000), list(0, 0, 1000000, 1000000), list(0, 0, 1000000, 1000000), list(0, 1000000)},
		{list(5, 9), list(5, 9), list(5, 9), list(5, 9)},
		{list(0, 1, 3, 4, 6, 7), list(2, 2, 5, 5), nil, list(0, 7)},
		{list(0, 20), list(0, 5, 7, 20), list(0, 5, 7, 20), list(0, 20)},
		{comb(60, 0, 3, 4), comb(60, 3, 1, 4), nil, list(0, 239)},
		// As many as there may be.
		{comb(31, 0, 3, 4), comb(30, 2, 3, 4), comb(60, 2, 1, 2), list(0, 122)},
		{comb(30, 0, 1, 4), comb(30, 2, 1, 4), nil, comb(60, 0, 1, 2)},
	} {
		for range 2 {
			l, e := site.Meet(test.a, test.b)
			expect(t, "Meet of "+flat(test.a)+flat(test.b), l, e, test.meet, api.OK)
			l, e = site.Join(test.a, test.b)
			expect(t, "Join of "+flat(test.a)+flat(test.b), l, e, test.join, api.OK)
			test.a, test.b = test.b, test.a
		}
	}
	for _, n := range []int{31, 60} {
		l, e := site.Meet(comb(n, 0, 3, 4), comb(n, 2, 3, 4))
		refuse(t, "Meet", l, e, api.ErrLarge)
		l, e = site.Join(comb(n, 0, 1, 4), comb(n, 2, 1, 4))
		refuse(t, "Join", l, e, api.ErrLarge)
	}
}

// P8.4, P8.11: a minute is in Meet just if it is in both, in Join just if it is in one of both, whichever comes first.
func TestWindowsByChance(t *testing.T) {
	c := newChance(6)
	for range 6000 {
		first := []int{0, 999000}[c.Intn(2)]
		most := []int{3, 12, 60}[c.Intn(3)]
		a, b := c.windows(most, first), c.windows(most, first)
		span := from(first, first+1000)
		for name, test := range map[string]struct {
			call func(a, b []api.Range) ([]api.Range, api.Errno)
			is   func(inA, inB bool) bool
		}{
			"Meet": {site.Meet, func(inA, inB bool) bool { return inA && inB }},
			"Join": {site.Join, func(inA, inB bool) bool { return inA || inB }},
		} {
			l, e := test.call(a, b)
			want, wanted := windowsWhere(span, func(minute int) bool { return test.is(inOne(a, minute), inOne(b, minute)) })
			expect(t, name+" of "+flat(a)+flat(b), l, e, want, wanted)
			turned, e := test.call(b, a)
			expect(t, name+" of "+flat(b)+flat(a), turned, e, want, wanted)
			if e == api.OK && site.CheckWindows(l) != api.OK {
				t.Errorf("%s of %v and %v are %v, which are no windows", name, a, b, l)
			}
		}
	}
}

// P8.4: windows that are long enough.
func TestLonger(t *testing.T) {
	l := list(0, 10, 20, 22, 30, 30)
	for minutes, want := range map[int][]api.Range{1: l, 2: l[:2], 3: l[:2], 4: l[:1], 11: l[:1], 12: nil, 1000000: nil} {
		got, e := site.Longer(l, minutes)
		expect(t, "Longer of "+flat(minutes), got, e, want, api.OK)
	}
	got, e := site.Longer(list(0, 1000000), 1000000)
	expect(t, "Longer", got, e, list(0, 1000000), api.OK)
	got, e = site.Longer(list(1, 999999), 1000000)
	expect(t, "Longer", got, e, []api.Range(nil), api.OK)
	for _, minutes := range []int{math.MinInt, -1, 0, 1000001, math.MaxInt} {
		got, e := site.Longer(l, minutes)
		refuse(t, "Longer", got, e, api.ErrRange)
		n, e := site.FirstFit(l, 0, minutes)
		refuse(t, "FirstFit", n, e, api.ErrRange)
	}
}

// P8.4: the first minutes that fit.
func TestFirstFit(t *testing.T) {
	l := list(0, 10, 20, 30)
	for _, test := range []struct {
		l                     []api.Range
		begin, minutes, first int
		e                     api.Errno
	}{
		{l, 8, 4, 20, api.OK},
		{l, 7, 4, 7, api.OK},
		{l, 0, 11, 0, api.OK},
		{l, 0, 12, 0, api.ErrNone},
		{l, 10, 1, 10, api.OK},
		{l, 11, 1, 20, api.OK},
		{l, 30, 1, 30, api.OK},
		{l, 30, 2, 0, api.ErrNone},
		{l, 31, 1, 0, api.ErrNone},
		{l, 20, 11, 20, api.OK},
		{l, 21, 11, 0, api.ErrNone},
		{nil, 0, 1, 0, api.ErrNone},
		{list(0, 1000000), 1, 1000000, 1, api.OK},
		{list(0, 1000000), 2, 1000000, 0, api.ErrNone},
		{list(1000000, 1000000), 0, 1, 1000000, api.OK},
		{list(1000000, 1000000), 1000000, 1, 1000000, api.OK},
		{list(1000000, 1000000), 1000000, 1000000, 0, api.ErrNone},
		{l, -1, 1, 0, api.ErrRange},
		{l, 1000001, 1, 0, api.ErrRange},
		{l, math.MinInt, 1, 0, api.ErrRange},
		{l, math.MaxInt, 1, 0, api.ErrRange},
	} {
		n, e := site.FirstFit(test.l, test.begin, test.minutes)
		expect(t, "FirstFit "+flat(test), n, e, test.first, test.e)
	}
}

// P8.4, P8.11: FirstFit and Longer minute by minute; FirstFit lies in a window of Longer.
func TestFitsByChance(t *testing.T) {
	c := newChance(7)
	for range 4000 {
		l, begin, minutes := c.windows(12, 0), c.Intn(120), c.from(1, 9)
		longer, e := site.Longer(l, minutes)
		want, _ := windowsWhere(from(0, 400), func(minute int) bool {
			around := minute
			for inOne(l, around-1) {
				around--
			}
			return inOne(l, minute) && allIn(l, around, minutes)
		})
		expect(t, "Longer of "+flat(l), longer, e, want, api.OK)
		first, wanted := 0, api.ErrNone
		for minute := 400; minute >= begin; minute-- {
			if allIn(l, minute, minutes) {
				first, wanted = minute, api.OK
			}
		}
		n, e := site.FirstFit(l, begin, minutes)
		expect(t, "FirstFit of "+flat(l)+flat(begin), n, e, first, wanted)
		if e == api.OK && !lieIn(list(n, n+minutes-1), longer) {
			t.Errorf("%d minutes from %d on are in none of %v", minutes, n, longer)
		}
	}
}

// allIn tells whether so many minutes from one on are in windows, which have minutes between.
func allIn(l []api.Range, first, minutes int) bool {
	for minute := first; minute < first+minutes; minute++ {
		if !inOne(l, minute) {
			return false
		}
	}
	return true
}
