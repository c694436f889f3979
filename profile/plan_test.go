package profile_test

import (
	"testing"

	"shotline/api"
	"shotline/profile"
)

// P2.1: right plans, and each error, with its leg, ahead of those behind it.
func TestCheckPlan(t *testing.T) {
	least := api.DivePlan{Name: "a", Surface: 400, Gases: []api.Gas{{}}}
	for _, p := range []api.DivePlan{reef(), dive(), least, manyLegs(), {Name: "Az-0", Surface: 1000, Gases: []api.Gas{air}}} {
		leg, e := profile.CheckPlan(p)
		expect(t, "CheckPlan "+p.Name, leg, e, 0, api.OK)
	}
	for _, c := range wrongPlans() {
		p := changed(c.change)
		leg, e := profile.CheckPlan(p)
		expect(t, "CheckPlan, "+c.name, leg, e, c.leg, c.want)
	}
	p := manyLegs()
	p.Legs[59].Seconds = 2
	leg, e := profile.CheckPlan(p)
	expect(t, "CheckPlan, a second too late", leg, e, 59, api.ErrLarge)
}

// P2.1, P2.2, P2.3, P2.4, P2.5: each function returns the error of its plan, ahead of all others.
func TestWrongPlans(t *testing.T) {
	for _, c := range wrongPlans() {
		p := changed(c.change)
		n, e := profile.PlanSeconds(p)
		refuse(t, "PlanSeconds, "+c.name, n, e, c.want)
		for _, second := range []int{-1, 0, 5} {
			r, e := profile.DepthAt(p, second)
			refuse(t, "DepthAt, "+c.name, r, e, c.want)
			n, e = profile.GasAt(p, second)
			refuse(t, "GasAt, "+c.name, n, e, c.want)
			x, e := profile.Before(p, second)
			refuse(t, "Before, "+c.name, x, e, c.want)
		}
		l, e := profile.PointsOf(p)
		refuse(t, "PointsOf, "+c.name, l, e, c.want)
		r, e := profile.MeanDepth(p)
		refuse(t, "MeanDepth, "+c.name, r, e, c.want)
		n, r, e = profile.FastestUp(p)
		refuse(t, "FastestUp, "+c.name, n, e, c.want)
		refuse(t, "FastestUp, "+c.name, r, e, c.want)
		x, e := profile.Normal(p)
		refuse(t, "Normal, "+c.name, x, e, c.want)
		x, e = profile.Extended(p, []api.DiveLeg{{}})
		refuse(t, "Extended, "+c.name, x, e, c.want)
		s, e := profile.Print(p)
		refuse(t, "Print, "+c.name, s, e, c.want)
		twoPlans(t, c.name, p, c.want)
	}
}

// twoPlans checks functions of two plans, of which the first wrong one counts.
func twoPlans(t *testing.T, name string, wrong api.DivePlan, want api.Errno) {
	t.Helper()
	noName, noSurface := reef(), reef()
	noName.Name, noSurface.Surface = "", 0
	for _, c := range []struct {
		a, b api.DivePlan
		want api.Errno
	}{
		{wrong, reef(), want}, {reef(), wrong, want}, {wrong, noName, want}, {wrong, noSurface, want},
		{noName, wrong, api.ErrName}, {noSurface, wrong, api.ErrRange},
	} {
		is, e := profile.SameDive(c.a, c.b)
		refuse(t, "SameDive, "+name, is, e, c.want)
		n, e := profile.FirstDiffer(c.a, c.b)
		refuse(t, "FirstDiffer, "+name, n, e, c.want)
	}
}

// P2.1: the end is the sum of all seconds.
func TestPlanSeconds(t *testing.T) {
	for _, c := range []struct {
		p    api.DivePlan
		want int
	}{{reef(), 1080}, {dive(), 0}, {manyLegs(), 1000000}, {dive(api.DiveLeg{Seconds: 1}), 1}} {
		n, e := profile.PlanSeconds(c.p)
		expect(t, "PlanSeconds "+flat(c.p), n, e, c.want, api.OK)
	}
}

// P2.4: the legs that begin before a second, the last one of them cut there.
func TestBefore(t *testing.T) {
	legs := reef().Legs
	for _, c := range []struct {
		second int
		want   []api.DiveLeg
		wanted api.Errno
	}{
		{0, nil, api.OK},
		{1, []api.DiveLeg{{Seconds: 1, Depth: 30}}, api.OK},
		{59, []api.DiveLeg{{Seconds: 59, Depth: 1770}}, api.OK},
		{60, legs[:1], api.OK},
		{61, []api.DiveLeg{legs[0], {Seconds: 1, Depth: 1800}}, api.OK},
		{660, legs[:2], api.OK},
		{700, []api.DiveLeg{legs[0], legs[1], {Seconds: 40, Depth: 1400}}, api.OK},
		{780, legs[:3], api.OK},
		{781, []api.DiveLeg{legs[0], legs[1], legs[2], {Seconds: 1, Depth: 600, Gas: 1}}, api.OK},
		{1080, legs, api.OK},
		{1081, nil, api.ErrRange},
		{-1, nil, api.ErrRange},
	} {
		want := api.DivePlan{}
		if c.wanted == api.OK {
			want = reef()
			want.Legs = c.want
		}
		x, e := profile.Before(reef(), c.second)
		expect(t, "Before "+flat(c.second), x, e, want, c.wanted)
	}
	p := dive(api.DiveLeg{Seconds: 3, Depth: 10}, api.DiveLeg{Seconds: 4, Depth: 0})
	for second, wanted := range []api.Errno{api.OK, api.ErrForm, api.ErrForm, api.OK, api.ErrForm, api.OK, api.ErrForm, api.OK, api.ErrRange} {
		x, e := profile.Before(p, second)
		zeroBeside(t, "Before", x, e)
		if e != wanted {
			t.Errorf("Before %d: error %d, want %d", second, e, wanted)
		}
	}
	x, e := profile.Before(dive(), 0)
	expect(t, "Before without legs", x, e, dive(), api.OK)
	x, e = profile.Before(dive(), 1)
	refuse(t, "Before without legs", x, e, api.ErrRange)
}

// P2.4: more legs behind the own ones, and the error of what comes out.
func TestExtended(t *testing.T) {
	more := []api.DiveLeg{{Seconds: 60, Gas: 1}, {Seconds: 7, Depth: 3}}
	want := reef()
	want.Legs = append(want.Legs, more...)
	x, e := profile.Extended(reef(), more)
	expect(t, "Extended", x, e, want, api.OK)
	x, e = profile.Extended(reef(), nil)
	expect(t, "Extended by none", x, e, reef(), api.OK)
	x, e = profile.Extended(dive(), more)
	expect(t, "Extended without legs", x, e, dive(more...), api.OK)
	longest := manyLegs()
	longest.Legs = longest.Legs[:59]
	x, e = profile.Extended(longest, []api.DiveLeg{{Seconds: 1, Depth: 30000, Gas: 7}})
	expect(t, "Extended up to the limits", x, e, manyLegs(), api.OK)
	for _, c := range []struct {
		name string
		p    api.DivePlan
		legs []api.DiveLeg
		want api.Errno
	}{
		{"0 seconds", reef(), []api.DiveLeg{{Seconds: 1}, {}}, api.ErrRange},
		{"too deep", reef(), []api.DiveLeg{{Seconds: 1, Depth: 30001, Gas: 2}}, api.ErrRange},
		{"no such gas", reef(), []api.DiveLeg{{Seconds: 1, Gas: 2}}, api.ErrMissing},
		{"an end too late", reef(), []api.DiveLeg{{Seconds: 998920}, {Seconds: 1}}, api.ErrLarge},
		{"61 legs", manyLegs(), []api.DiveLeg{{}}, api.ErrLarge},
		{"a second too late", longest, []api.DiveLeg{{Seconds: 2}}, api.ErrLarge},
	} {
		x, e := profile.Extended(c.p, c.legs)
		refuse(t, "Extended, "+c.name, x, e, c.want)
	}
}

// P2.4: the error of the plan itself comes ahead of that of the longer one.
func TestExtendedWrongPlan(t *testing.T) {
	p := reef()
	p.Legs[2].Gas = 9
	x, e := profile.Extended(p, make([]api.DiveLeg, 60))
	refuse(t, "Extended", x, e, api.ErrMissing)
}

// R6: parts of plans share no memory with the plans, and change none.
func TestPlansOfTheirOwn(t *testing.T) {
	for _, c := range []struct {
		name string
		f    func(p api.DivePlan) (api.DivePlan, api.Errno)
	}{
		{"Before", func(p api.DivePlan) (api.DivePlan, api.Errno) { return profile.Before(p, 1080) }},
		{"Before within", func(p api.DivePlan) (api.DivePlan, api.Errno) { return profile.Before(p, 700) }},
		{"Normal", profile.Normal},
		{"Normal without legs", func(p api.DivePlan) (api.DivePlan, api.Errno) { p.Legs = nil; return profile.Normal(p) }},
		{"Extended by none", func(p api.DivePlan) (api.DivePlan, api.Errno) { return profile.Extended(p, nil) }},
		{"Extended within its capacity", func(p api.DivePlan) (api.DivePlan, api.Errno) {
			return profile.Extended(api.DivePlan{Name: p.Name, Surface: p.Surface, Gases: p.Gases[:1], Legs: p.Legs[:1]}, []api.DiveLeg{{Seconds: 5}})
		}},
		{"Extended by all", func(p api.DivePlan) (api.DivePlan, api.Errno) {
			return profile.Extended(api.DivePlan{Name: p.Name, Surface: p.Surface, Gases: p.Gases}, p.Legs)
		}},
	} {
		p := reef()
		x, e := c.f(p)
		expect(t, c.name+": the argument", p, e, reef(), api.OK)
		spoil(x)
		expect(t, c.name+": the argument behind a change of the result", p, api.OK, reef(), api.OK)
	}
	p := reef()
	p.Legs = append(p.Legs[:1], api.DiveLeg{Seconds: 30, Depth: 2700}, api.DiveLeg{Seconds: 30, Depth: 3600})
	kept := copyOf(p)
	x, e := profile.Normal(p)
	expect(t, "Normal: the argument", p, e, kept, api.OK)
	if len(x.Legs) != 1 {
		t.Errorf("Normal: %v", x)
	}
}
