package profile_test

import (
	"math/big"
	"testing"

	"shotline/api"
	"shotline/profile"
)

// longest is a profile of 200 points.
func longest() []api.DivePoint {
	var l []api.DivePoint
	for i := range 200 {
		l = append(l, api.DivePoint{Second: 7 * i, Depth: i * i % 57})
	}
	return l
}

// P2.7: right profiles, and each error ahead of those behind it, in all functions of profiles.
func TestCheckPoints(t *testing.T) {
	for _, l := range [][]api.DivePoint{points(0, 0, 1, 0), points(0, 30000, 1000000, 0), points(999999, 5, 1000000, 7), longest()} {
		expect(t, "CheckPoints "+flat(l), true, profile.CheckPoints(l), true, api.OK)
	}
	right, noOrder, alone := points(0, 0, 10, 100), points(1, 0, 1, 0), points(0, 0)
	for _, c := range wrongPoints() {
		if e := profile.CheckPoints(c.l); e != c.want {
			t.Errorf("CheckPoints, %s: error %d, want %d", c.name, e, c.want)
		}
		r, e := profile.DepthOf(c.l, -1)
		refuse(t, "DepthOf, "+c.name, r, e, c.want)
		for _, x := range []struct {
			a, b []api.DivePoint
			want api.Errno
		}{{c.l, right, c.want}, {right, c.l, c.want}, {c.l, noOrder, c.want}, {c.l, alone, c.want}, {noOrder, c.l, api.ErrOrder}, {alone, c.l, api.ErrShape}} {
			r, e = profile.Distance(x.a, x.b)
			refuse(t, "Distance, "+c.name, r, e, x.want)
			is, e := profile.IsWithin(x.a, x.b, -1)
			refuse(t, "IsWithin, "+c.name, is, e, x.want)
		}
		kept, labels, e := profile.Thin(c.l, -1)
		refuse(t, "Thin, "+c.name, kept, e, c.want)
		refuse(t, "Thin, "+c.name, labels, e, c.want)
		n, e := profile.CheckThin(c.l, -1, []int{-1})
		refuse(t, "CheckThin, "+c.name, n, e, c.want)
		n, e = profile.CheckLabels(c.l, -1, []int{-1})
		refuse(t, "CheckLabels, "+c.name, n, e, c.want)
	}
}

// P2.7: depths on the straight lines, rounded, and seconds outside.
func TestDepthOf(t *testing.T) {
	l := points(5, 0, 9, 60, 15, 100, 1000000, 0)
	for _, c := range []struct {
		second int
		want   api.Range
		wanted api.Errno
	}{
		{5, exactly(0), api.OK}, {6, exactly(15), api.OK}, {9, exactly(60), api.OK}, {10, api.Range{Lo: 66, Hi: 67}, api.OK},
		{12, exactly(80), api.OK}, {15, exactly(100), api.OK}, {16, api.Range{Lo: 99, Hi: 100}, api.OK},
		{999999, api.Range{Lo: 0, Hi: 1}, api.OK}, {1000000, exactly(0), api.OK},
		{4, api.Range{}, api.ErrRange}, {0, api.Range{}, api.ErrRange}, {-1, api.Range{}, api.ErrRange}, {1000001, api.Range{}, api.ErrRange},
	} {
		r, e := profile.DepthOf(l, c.second)
		expect(t, "DepthOf "+flat(c.second), r, e, c.want, c.wanted)
	}
	someProfiles(200, func(a, _ []api.DivePoint) {
		for second := a[0].Second; second <= a[len(a)-1].Second; second++ {
			r, e := profile.DepthOf(a, second)
			expect(t, "DepthOf "+flat(a), r, e, rounded(depthOf(a, rat(second, 1))), api.OK)
		}
	})
}

// P2.7: the greatest difference at one instant, also where only one of both has a point.
func TestDistance(t *testing.T) {
	for _, c := range []struct {
		name   string
		a, b   []api.DivePoint
		want   api.Range
		wanted api.Errno
	}{
		{"the example", points(0, 0, 10, 100), points(0, 0, 4, 60, 10, 100), exactly(20), api.OK},
		{"itself", longest(), longest(), exactly(0), api.OK},
		{"at the begin", points(3, 7, 9, 5), points(3, 0, 9, 5), exactly(7), api.OK},
		{"at the end", points(3, 7, 9, 5), points(3, 7, 9, 25), exactly(20), api.OK},
		{"straight up and down, not along time", points(0, 0, 1, 30000, 2, 0), points(0, 0, 2, 0), exactly(30000), api.OK},
		{"less than one", points(0, 0, 1, 0, 3, 1), points(0, 0, 3, 1), api.Range{Lo: 0, Hi: 1}, api.OK},
		{"as far at two points", points(0, 0, 1, 0, 10, 9), points(0, 0, 9, 9, 10, 9), exactly(1), api.OK},
		{"not whole", points(0, 0, 3, 100), points(0, 0, 1, 0, 3, 100), api.Range{Lo: 33, Hi: 34}, api.OK},
		{"a whole one and a little more", points(0, 0, 1, 1, 3, 0, 7, 2), points(0, 0, 1, 0, 3, 0, 4, 2, 7, 2), api.Range{Lo: 1, Hi: 2}, api.OK},
		{"as far as may be", points(0, 0, 999999, 0, 1000000, 30000), points(0, 0, 1, 30000, 1000000, 30000), exactly(30000), api.OK},
		{"another begin", points(0, 0, 10, 100), points(1, 0, 10, 100), api.Range{}, api.ErrClash},
		{"another end", points(0, 0, 10, 100), points(0, 0, 11, 100), api.Range{}, api.ErrClash},
		{"within the other one", points(0, 0, 10, 100), points(1, 0, 9, 100), api.Range{}, api.ErrClash},
	} {
		r, e := profile.Distance(c.a, c.b)
		expect(t, "Distance, "+c.name, r, e, c.want, c.wanted)
		r, e = profile.Distance(c.b, c.a)
		expect(t, "Distance the other way round, "+c.name, r, e, c.want, c.wanted)
	}
}

// P2.7: the error of the error ahead of ErrClash; the distance itself is not rounded.
func TestIsWithin(t *testing.T) {
	a, b := points(0, 0, 3, 100), points(0, 0, 1, 0, 3, 100)
	for _, c := range []struct {
		b      []api.DivePoint
		most   int
		want   bool
		wanted api.Errno
	}{
		{b, 33, false, api.OK}, {b, 34, true, api.OK}, {b, 30000, true, api.OK}, {b, 0, false, api.OK}, {a, 0, true, api.OK},
		{b, -1, false, api.ErrRange}, {b, 30001, false, api.ErrRange},
		{points(0, 0, 4, 100), 30001, false, api.ErrRange}, {points(0, 0, 4, 100), 30000, false, api.ErrClash}, {points(1, 0, 3, 100), 0, false, api.ErrClash},
	} {
		is, e := profile.IsWithin(a, c.b, c.most)
		expect(t, "IsWithin "+flat(c.most)+flat(c.b), is, e, c.want, c.wanted)
	}
	is, e := profile.IsWithin(points(0, 0, 10, 100), points(0, 0, 4, 60, 10, 100), 20)
	expect(t, "IsWithin of the distance", is, e, true, api.OK)
}

// P2.7: among many profiles, at all instants that a fine grid and the points have.
func TestDistanceOfMany(t *testing.T) {
	someProfiles(500, func(a, b []api.DivePoint) {
		most := new(big.Rat)
		for n := 4 * a[0].Second; n <= 4*a[len(a)-1].Second; n++ {
			x := new(big.Rat).Sub(depthOf(a, rat(n, 4)), depthOf(b, rat(n, 4)))
			if x.Abs(x).Cmp(most) > 0 {
				most = x
			}
		}
		r, e := profile.Distance(a, b)
		expect(t, "Distance "+flat(a)+flat(b), r, e, rounded(most), api.OK)
		for n := range 10 {
			is, e := profile.IsWithin(a, b, n)
			expect(t, "IsWithin "+flat(n)+flat(a)+flat(b), is, e, most.Cmp(rat(n, 1)) <= 0, api.OK)
		}
	})
}
