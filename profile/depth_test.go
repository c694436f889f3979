package profile_test

import (
	"testing"

	"shotline/api"
	"shotline/profile"
)

// P2.2: depths of the example, at both ends, and outside.
func TestDepthAt(t *testing.T) {
	for _, c := range []struct {
		second, want int
		wanted       api.Errno
	}{
		{0, 0, api.OK}, {1, 30, api.OK}, {30, 900, api.OK}, {60, 1800, api.OK}, {61, 1800, api.OK}, {660, 1800, api.OK},
		{700, 1400, api.OK}, {701, 1390, api.OK}, {780, 600, api.OK}, {1080, 600, api.OK},
		{-1, 0, api.ErrRange}, {1081, 0, api.ErrRange},
	} {
		r, e := profile.DepthAt(reef(), c.second)
		expect(t, "DepthAt "+flat(c.second), r, e, exactly(c.want), c.wanted)
	}
	r, e := profile.DepthAt(dive(), 0)
	expect(t, "DepthAt without legs", r, e, exactly(0), api.OK)
	r, e = profile.DepthAt(dive(), 1)
	refuse(t, "DepthAt behind no legs", r, e, api.ErrRange)
	long := dive(api.DiveLeg{Seconds: 999999, Depth: 29999}, api.DiveLeg{Seconds: 1})
	for second, want := range map[int]api.Range{1: {Lo: 0, Hi: 1}, 34: {Lo: 1, Hi: 2}, 999998: {Lo: 29998, Hi: 29999}, 999999: exactly(29999), 1000000: {}} {
		r, e := profile.DepthAt(long, second)
		expect(t, "DepthAt "+flat(second), r, e, want, api.OK)
	}
}

// P2.2: depths and gases of many plans, at every second.
func TestDepthsAndGases(t *testing.T) {
	somePlans(300, func(p api.DivePlan) {
		for second := range secondsOf(p) + 1 {
			depth, g := depthAt(p, second)
			r, e := profile.DepthAt(p, second)
			expect(t, "DepthAt "+flat(second)+flat(p), r, e, rounded(depth), api.OK)
			if len(p.Legs) > 0 {
				n, e := profile.GasAt(p, second)
				expect(t, "GasAt "+flat(second)+flat(p), p.Gases[n], e, g, api.OK)
			}
		}
	})
}

// P2.2: at the second at which a leg ends the gas is that of this leg, at 0 that of the first one.
func TestGasAt(t *testing.T) {
	q := dive(api.DiveLeg{Seconds: 1, Gas: 2}, api.DiveLeg{Seconds: 1, Gas: 0}, api.DiveLeg{Seconds: 2, Gas: 1})
	for _, c := range []struct {
		p            api.DivePlan
		second, want int
		wanted       api.Errno
	}{
		{reef(), 0, 0, api.OK}, {reef(), 780, 0, api.OK}, {reef(), 781, 1, api.OK}, {reef(), 1080, 1, api.OK},
		{reef(), 1081, 0, api.ErrRange}, {reef(), -1, 0, api.ErrRange},
		{q, 0, 2, api.OK}, {q, 1, 2, api.OK}, {q, 2, 0, api.OK}, {q, 3, 1, api.OK}, {q, 4, 1, api.OK}, {q, 5, 0, api.ErrRange},
		{dive(), 0, 0, api.ErrNone}, {dive(), 1, 0, api.ErrRange}, {dive(), -1, 0, api.ErrRange},
	} {
		n, e := profile.GasAt(c.p, c.second)
		expect(t, "GasAt "+flat(c.second)+flat(c.p), n, e, c.want, c.wanted)
	}
}

// P2.2: {0, 0}, and the end of each leg.
func TestPointsOf(t *testing.T) {
	for _, c := range []struct {
		p    api.DivePlan
		want []api.DivePoint
	}{
		{reef(), points(0, 0, 60, 1800, 660, 1800, 780, 600, 1080, 600)},
		{dive(), points(0, 0)},
		{dive(api.DiveLeg{Seconds: 5}), points(0, 0, 5, 0)},
	} {
		l, e := profile.PointsOf(c.p)
		expect(t, "PointsOf "+flat(c.p), l, e, c.want, api.OK)
	}
}

// P2.2: the mean over all instants, whole and between two numbers.
func TestMeanDepth(t *testing.T) {
	for _, c := range []struct {
		p    api.DivePlan
		want api.Range
	}{
		{reef(), exactly(1350)},
		{dive(), exactly(0)},
		{dive(api.DiveLeg{Seconds: 9}), exactly(0)},
		{dive(api.DiveLeg{Seconds: 9, Depth: 2}), exactly(1)},
		{dive(api.DiveLeg{Seconds: 9, Depth: 3}), api.Range{Lo: 1, Hi: 2}},
		{dive(api.DiveLeg{Seconds: 1, Depth: 3}, api.DiveLeg{Seconds: 2, Depth: 3}), api.Range{Lo: 2, Hi: 3}},
		{dive(api.DiveLeg{Seconds: 1, Depth: 30000}, api.DiveLeg{Seconds: 999999, Depth: 30000}), api.Range{Lo: 29999, Hi: 30000}},
	} {
		r, e := profile.MeanDepth(c.p)
		expect(t, "MeanDepth "+flat(c.p), r, e, c.want, api.OK)
	}
	somePlans(300, func(p api.DivePlan) {
		if len(p.Legs) == 0 {
			return
		}
		sum, at := rat(0, 1), 0
		for _, leg := range p.Legs {
			sum.Add(sum, rat((at+leg.Depth)*leg.Seconds, 2))
			at = leg.Depth
		}
		r, e := profile.MeanDepth(p)
		expect(t, "MeanDepth "+flat(p), r, e, rounded(sum.Quo(sum, rat(secondsOf(p), 1))), api.OK)
	})
}

// P2.2: the greatest speed upwards, exactly; of several legs the first one.
func TestFastestUp(t *testing.T) {
	down := api.DiveLeg{Seconds: 1, Depth: 1000}
	for _, c := range []struct {
		name   string
		p      api.DivePlan
		leg    int
		want   api.Range
		wanted api.Errno
	}{
		{"the example", reef(), 2, exactly(600), api.OK},
		{"without legs", dive(), 0, api.Range{}, api.ErrNone},
		{"down, and flat", dive(down, api.DiveLeg{Seconds: 5, Depth: 1000}, api.DiveLeg{Seconds: 5, Depth: 1001}), 0, api.Range{}, api.ErrNone},
		{"the first of two", dive(down, api.DiveLeg{Seconds: 10, Depth: 900}, api.DiveLeg{Seconds: 20, Depth: 700}), 1, exactly(600), api.OK},
		{"a later one", dive(down, api.DiveLeg{Seconds: 10, Depth: 900}, api.DiveLeg{Seconds: 20, Depth: 699}), 2, exactly(603), api.OK},
		{"not the longest way", dive(down, api.DiveLeg{Seconds: 100, Depth: 500}, api.DiveLeg{Seconds: 1, Depth: 490}), 2, exactly(600), api.OK},
		{"rounded", dive(down, api.DiveLeg{Seconds: 7, Depth: 999}), 1, api.Range{Lo: 8, Hi: 9}, api.OK},
		{"less than one", dive(down, api.DiveLeg{Seconds: 61, Depth: 999}), 1, api.Range{Lo: 0, Hi: 1}, api.OK},
		{"faster by less than a rounding", dive(down, api.DiveLeg{Seconds: 62, Depth: 999}, api.DiveLeg{Seconds: 61, Depth: 998}), 2, api.Range{Lo: 0, Hi: 1}, api.OK},
		{"slower by less than a rounding", dive(down, api.DiveLeg{Seconds: 61, Depth: 999}, api.DiveLeg{Seconds: 62, Depth: 998}), 1, api.Range{Lo: 0, Hi: 1}, api.OK},
		{"as fast as may be", dive(api.DiveLeg{Seconds: 1, Depth: 30000}, api.DiveLeg{Seconds: 1}), 1, exactly(1800000), api.OK},
	} {
		n, r, e := profile.FastestUp(c.p)
		expect(t, "FastestUp, "+c.name, r, e, c.want, c.wanted)
		expect(t, "FastestUp, "+c.name, n, e, c.leg, c.wanted)
	}
}
