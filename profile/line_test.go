package profile_test

import (
	"math"
	"slices"
	"testing"

	"shotline/api"
	"shotline/profile"
)

const reefLine = "p 1013 2 210 0 500 0 60 1800 0 600 1800 0 120 600 0 300 600 1"

// P2.6: the line of a plan, whatever it is.
func TestFormatPlanLine(t *testing.T) {
	for _, c := range []struct {
		p    api.DivePlan
		want string
	}{
		{reef(), reefLine},
		{dive(), "d 1000 3 210 0 500 0 210 0"},
		{api.DivePlan{}, " 0 0"},
		{api.DivePlan{Name: "a b\n", Surface: -1, Legs: []api.DiveLeg{{Seconds: -2, Depth: math.MaxInt, Gas: math.MinInt}}}, "a b\n -1 0 -2 9223372036854775807 -9223372036854775808"},
		{api.DivePlan{Name: "1", Gases: []api.Gas{wideGas, {Oxygen: -5, Helium: -6}}}, "1 0 2 1001 0 -5 -6"},
	} {
		expect(t, "FormatPlanLine", profile.FormatPlanLine(c.p), api.OK, c.want, api.OK)
	}
}

// P2.6: the plan with a line, texts that are none, and the errors of CheckPlan behind these.
func TestParsePlanLine(t *testing.T) {
	p, e := profile.ParsePlanLine(reefLine)
	expect(t, "ParsePlanLine", p, e, reef(), api.OK)
	p, e = profile.ParsePlanLine("d 1000 3 210 0 500 0 210 0")
	expect(t, "ParsePlanLine without legs", p, e, dive(), api.OK)
	for _, c := range []struct {
		s    string
		want api.Errno
	}{
		{"", api.ErrSyntax}, {" ", api.ErrSyntax}, {"p", api.ErrSyntax}, {"p ", api.ErrSyntax}, {"p 1013", api.ErrSyntax}, {"p 1013 ", api.ErrSyntax},
		{"p 1013 1", api.ErrSyntax}, {"p 1013 1 210", api.ErrSyntax}, {"p 1013 2 210 0 500", api.ErrSyntax},
		{"p 1013 1 210 0 60", api.ErrSyntax}, {"p 1013 1 210 0 60 1800", api.ErrSyntax}, {"p 1013 1 210 0 500 0", api.ErrSyntax},
		{"p 1013 2 210 0 60 1800 0", api.ErrSyntax}, {"p 1013 -1", api.ErrSyntax}, {"p 1013 -1 1", api.ErrSyntax}, {"p 1013 9999999999", api.ErrSyntax}, {"p 1013 -1 210 0", api.ErrSyntax},
		{" p 1013 1 210 0", api.ErrSyntax}, {"p  1013 1 210 0", api.ErrSyntax}, {"p 1013 1 210  0", api.ErrSyntax}, {"p 1013 1 210 0 ", api.ErrSyntax},
		{"p 1013 1 210 0\n", api.ErrSyntax}, {"p 1013 1\t210 0", api.ErrSyntax}, {"p x 1 210 0", api.ErrSyntax}, {"p 1013 x 210 0", api.ErrSyntax},
		{"p 01013 1 210 0", api.ErrSyntax}, {"p +1013 1 210 0", api.ErrSyntax}, {"p 1013 1 210 -0", api.ErrSyntax}, {"p 1013 1 210 00", api.ErrSyntax},
		{"p 1013 01 210 0", api.ErrSyntax}, {"p 1013 1 10000000000 0", api.ErrSyntax}, {"p 1013 1 -10000000000 0", api.ErrSyntax}, {"p 1013 1 99999999999999999999 0", api.ErrSyntax},
		{"1 0 0 x", api.ErrSyntax}, {"p 0 1 1001 0 0 0 0 0", api.ErrSyntax}, {"p 1013 1 -- 0", api.ErrSyntax}, {"p 1013 1 - 0", api.ErrSyntax},
		{" 1013 1 210 0", api.ErrName}, {"1 1013 1 210 0", api.ErrName}, {"a\nb 1013 1 210 0", api.ErrName}, {"\xff 0 1 210 0", api.ErrName},
		{"p 399 1 210 0", api.ErrRange}, {"p -1 0", api.ErrRange}, {"p 9999999999 0", api.ErrRange},
		{"p 1013 0", api.ErrShape}, {"p 1013 0 60 1800 0", api.ErrShape},
		{"p 1013 9 0 0 0 0 0 0 0 0 0 0 0 0 0 0 0 0 0 0", api.ErrLarge},
		{"p 1013 1 9999999999 0", api.ErrRange}, {"p 1013 1 600 401", api.ErrSum}, {"p 1013 1 -9999999999 0", api.ErrRange},
		{"p 1013 1 210 0 0 0 0", api.ErrRange}, {"p 1013 1 210 0 -60 0 0", api.ErrRange}, {"p 1013 1 210 0 60 30001 1", api.ErrRange},
		{"p 1013 1 210 0 60 0 1", api.ErrMissing}, {"p 1013 1 210 0 60 0 -1", api.ErrMissing},
		{"p 1013 1 210 0 1000000 0 0 1 0 0", api.ErrLarge},
	} {
		p, e := profile.ParsePlanLine(c.s)
		refuse(t, "ParsePlanLine "+c.s, p, e, c.want)
	}
	tooMany := manyLegs()
	tooMany.Legs = append(tooMany.Legs, api.DiveLeg{})
	p, e = profile.ParsePlanLine(profile.FormatPlanLine(tooMany))
	refuse(t, "ParsePlanLine of 61 legs", p, e, api.ErrLarge)
}

// P2.11: ParsePlanLine undoes FormatPlanLine.
func TestPlanLinesThereAndBack(t *testing.T) {
	back := func(p api.DivePlan) {
		x, e := profile.ParsePlanLine(profile.FormatPlanLine(p))
		expect(t, "ParsePlanLine "+flat(p), x, e, p, api.OK)
	}
	somePlans(300, back)
	back(reef())
	back(manyLegs())
}

// P2.6: the line of a profile, whatever it is, and "" of no points.
func TestFormatPoints(t *testing.T) {
	for _, c := range []struct {
		l    []api.DivePoint
		want string
	}{
		{nil, ""}, {[]api.DivePoint{}, ""}, {points(0, 0, 10, 100), "0 0 10 100"}, {points(5, 7), "5 7"},
		{points(3, -1, -2, 99999, math.MinInt, math.MaxInt), "3 -1 -2 99999 -9223372036854775808 9223372036854775807"},
	} {
		expect(t, "FormatPoints", profile.FormatPoints(c.l), api.OK, c.want, api.OK)
	}
}

// P2.6: the profile with a line, texts that are none, and the errors of CheckPoints behind these.
func TestParsePoints(t *testing.T) {
	l, e := profile.ParsePoints("0 0 10 100")
	expect(t, "ParsePoints", l, e, points(0, 0, 10, 100), api.OK)
	for _, c := range []struct {
		s    string
		want api.Errno
	}{
		{"", api.ErrSyntax}, {" ", api.ErrSyntax}, {"0", api.ErrSyntax}, {"0 0 1", api.ErrSyntax}, {"0 0 10 100 ", api.ErrSyntax}, {" 0 0 10 100", api.ErrSyntax},
		{"0 0  10 100", api.ErrSyntax}, {"0 0 10 100\n", api.ErrSyntax}, {"0 0 10 0100", api.ErrSyntax}, {"0 -0 10 100", api.ErrSyntax}, {"0 0 +10 100", api.ErrSyntax},
		{"0 0 10 1x", api.ErrSyntax}, {"0\t0 10 100", api.ErrSyntax}, {"-1 0 10 10000000000", api.ErrSyntax}, {"5 0 5 0 5", api.ErrSyntax},
		{"0 0", api.ErrShape}, {"-1 0", api.ErrShape},
		{"0 0 10 9999999999", api.ErrRange}, {"-9999999999 0 10 1", api.ErrRange}, {"0 -1 10 100", api.ErrRange}, {"0 0 1000001 0", api.ErrRange},
		{"5 0 5 0", api.ErrOrder},
	} {
		l, e := profile.ParsePoints(c.s)
		refuse(t, "ParsePoints "+c.s, l, e, c.want)
	}
	for _, c := range wrongPoints() {
		if len(c.l) == 0 {
			continue
		}
		l, e := profile.ParsePoints(profile.FormatPoints(c.l))
		refuse(t, "ParsePoints, "+c.name, l, e, c.want)
	}
}

// P2.11: ParsePoints undoes FormatPoints.
func TestPointsThereAndBack(t *testing.T) {
	back := func(l []api.DivePoint) {
		x, e := profile.ParsePoints(profile.FormatPoints(l))
		expect(t, "ParsePoints "+flat(l), x, e, l, api.OK)
	}
	someProfiles(200, func(a, b []api.DivePoint) { back(a); back(b) })
	back(slices.Concat(points(0, 30000), longest()[1:199], points(1000000, 0)))
}
