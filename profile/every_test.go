package profile_test

import (
	"slices"
	"strings"
	"testing"

	"shotline/api"
	"shotline/profile"
)

// P1: no function panics, whatever its arguments, and beside an error each other result is its zero value.
func TestEveryPlan(t *testing.T) {
	for _, a := range extremes {
		for _, b := range extremes {
			for _, c := range extremes {
				leg := api.DiveLeg{Seconds: a, Depth: b, Gas: c}
				first := reef()
				first.Legs[0] = leg
				onePlan(t, first)
				onePlan(t, dive(leg))
				onePlan(t, dive(api.DiveLeg{Seconds: 1}, leg, leg))
				x, e := profile.Extended(reef(), []api.DiveLeg{leg})
				zeroBeside(t, "Extended", x, e)
			}
			p := reef()
			p.Gases[1] = api.Gas{Oxygen: a, Helium: b}
			onePlan(t, p)
			p.Surface = b
			onePlan(t, p)
		}
	}
	onePlan(t, api.DivePlan{})
}

func onePlan(t *testing.T, p api.DivePlan) {
	t.Helper()
	_, wanted := profile.CheckPlan(p)
	for _, second := range extremes {
		r, e := profile.DepthAt(p, second)
		zeroBeside(t, "DepthAt", r, e)
		n, e := profile.GasAt(p, second)
		zeroBeside(t, "GasAt", n, e)
		x, e := profile.Before(p, second)
		zeroBeside(t, "Before", x, e)
	}
	n, r, e := profile.FastestUp(p)
	zeroBeside(t, "FastestUp", n, e)
	zeroBeside(t, "FastestUp", r, e)
	profile.MeanDepth(p)
	profile.SameDive(p, reef())
	profile.FirstDiffer(reef(), p)
	x, e := profile.Normal(p)
	if e != wanted {
		t.Errorf("Normal(%v): error %d, want %d", p, e, wanted)
	}
	zeroBeside(t, "Normal", x, e)
	s, e := profile.Print(p)
	if e != wanted {
		t.Errorf("Print(%v): error %d, want %d", p, e, wanted)
	}
	zeroBeside(t, "Print", s, e)
	x, e = profile.ParsePlanLine(profile.FormatPlanLine(p))
	zeroBeside(t, "ParsePlanLine", x, e)
}

// P1: the same of profiles.
func TestEveryProfile(t *testing.T) {
	for _, a := range extremes {
		for _, b := range extremes {
			for _, c := range extremes {
				l := points(0, 0, a, b, 1000000, c)
				wanted := profile.CheckPoints(l)
				r, e := profile.DepthOf(l, c)
				zeroBeside(t, "DepthOf", r, e)
				r, e = profile.Distance(l, points(0, c, 1000000, b))
				if e != wanted && wanted != api.OK {
					t.Errorf("Distance(%v): error %d, want %d", l, e, wanted)
				}
				zeroBeside(t, "Distance", r, e)
				is, e := profile.IsWithin(points(0, 5, 1000000, 7), l, a)
				zeroBeside(t, "IsWithin", is, e)
				kept, labels, e := profile.Thin(l, b)
				zeroBeside(t, "Thin", kept, e)
				zeroBeside(t, "Thin", labels, e)
				n, e := profile.CheckThin(four, 9, []int{a, b, c})
				zeroBeside(t, "CheckThin", n, e)
				n, e = profile.CheckLabels(four, 9, []int{0, a, b, c})
				zeroBeside(t, "CheckLabels", n, e)
				x, e := profile.ParsePoints(profile.FormatPoints(l))
				zeroBeside(t, "ParsePoints", x, e)
			}
		}
	}
}

// P1: the same of texts: each one in which some bytes of a right one are others, or missing.
func TestEveryText(t *testing.T) {
	for i := range reefText {
		for _, part := range []string{"", " ", "\n", "\t", ";", ":", ".", "-", "0", "9", "x", "leg", "\x00", "\xff", "\u00a0", "\r", "9999999", "99999999999999999999"} {
			for _, s := range []string{reefText[:i] + part, reefText[:i] + part + reefText[i:], reefText[:i] + part + reefText[i+1:]} {
				oneText(t, s)
			}
		}
	}
}

func oneText(t *testing.T, s string) {
	t.Helper()
	p, m, e := profile.Parse(s)
	zeroBeside(t, "Parse", p, e)
	if (e == api.OK) != (m == api.TextMark{}) || m.Line < 0 || m.Line > strings.Count(s, "\n")+2 || m.Column < 0 || m.Column > len(s)+1 {
		t.Errorf("Parse(%q): %v, error %d", s, m, e)
	}
	if leg, wanted := profile.CheckPlan(p); e == api.OK && wanted != api.OK {
		t.Errorf("Parse(%q): %v with the error %d in leg %d", s, p, wanted, leg)
	}
	line := strings.ReplaceAll(s, "\n", " ")
	x, e := profile.ParsePlanLine(line)
	zeroBeside(t, "ParsePlanLine", x, e)
	l, e := profile.ParsePoints(line)
	zeroBeside(t, "ParsePoints", l, e)
}

// R6: no list of an argument is changed.
func TestArgumentsStay(t *testing.T) {
	a, b := four, points(0, 0, 10, 50, 30, 300)
	kept, labels := []int{0, 2, 3}, []int{0, 1, 1, 2}
	before := flat([]any{a, b, kept, labels})
	profile.Distance(a, b)
	profile.IsWithin(a, b, 5)
	profile.DepthOf(a, 5)
	profile.CheckThin(a, 9, kept)
	profile.CheckLabels(a, 9, labels)
	mine, other, _ := profile.Thin(a, 9)
	profile.FormatPoints(a)
	profile.FirstDiffer(reef(), dive())
	for i := range mine {
		mine[i] = -1
	}
	if slices.Contains(other, -1) || flat([]any{a, b, kept, labels}) != before {
		t.Errorf("an argument, or another result, is changed: %v, %v, %v, %v, %v", a, b, kept, labels, other)
	}
	p, q := reef(), copyOf(reef())
	q.Legs[2].Depth = 500
	profile.FirstDiffer(p, q)
	profile.SameDive(p, q)
	profile.FormatPlanLine(p)
	profile.Print(p)
	profile.PointsOf(p)
	profile.MeanDepth(p)
	profile.FastestUp(p)
	expect(t, "the plan", p, api.OK, reef(), api.OK)
	q.Legs[2].Depth = 600
	expect(t, "the other plan", q, api.OK, reef(), api.OK)
}
