package profile_test

import (
	"slices"
	"testing"

	"shotline/api"
	"shotline/profile"
)

// P2.3: what becomes one leg, and what does not; which gases are left.
func TestNormal(t *testing.T) {
	helium := api.Gas{Oxygen: 210, Helium: 1}
	for _, c := range []struct {
		name string
		p    api.DivePlan
		want api.DivePlan
	}{
		{"the example", reef(), reef()},
		{"without legs", dive(), api.DivePlan{Name: "d", Surface: 1000, Gases: []api.Gas{air}}},
		{"without legs, another gas first", api.DivePlan{Name: "d", Surface: 1000, Gases: []api.Gas{half, air}}, api.DivePlan{Name: "d", Surface: 1000, Gases: []api.Gas{half}}},
		{"staying, up at one speed, other numbers of a gas",
			api.DivePlan{Name: "p", Surface: 1013, Gases: []api.Gas{air, half, air}, Legs: []api.DiveLeg{{Seconds: 60, Depth: 1800, Gas: 2},
				{Seconds: 300, Depth: 1800}, {Seconds: 300, Depth: 1800, Gas: 2}, {Seconds: 40, Depth: 1400}, {Seconds: 80, Depth: 600}, {Seconds: 300, Depth: 600, Gas: 1}}},
			reef()},
		{"three of one", dive(api.DiveLeg{Seconds: 1, Depth: 2}, api.DiveLeg{Seconds: 2, Depth: 6, Gas: 2}, api.DiveLeg{Seconds: 3, Depth: 12}),
			api.DivePlan{Name: "d", Surface: 1000, Gases: []api.Gas{air}, Legs: []api.DiveLeg{{Seconds: 6, Depth: 12}}}},
		{"at the surface", dive(api.DiveLeg{Seconds: 1, Gas: 1}, api.DiveLeg{Seconds: 2, Gas: 1}),
			api.DivePlan{Name: "d", Surface: 1000, Gases: []api.Gas{half}, Legs: []api.DiveLeg{{Seconds: 3}}}},
		{"another speed", dive(api.DiveLeg{Seconds: 10, Depth: 100}, api.DiveLeg{Seconds: 10, Depth: 201}),
			api.DivePlan{Name: "d", Surface: 1000, Gases: []api.Gas{air}, Legs: []api.DiveLeg{{Seconds: 10, Depth: 100}, {Seconds: 10, Depth: 201}}}},
		{"the same way in another time", dive(api.DiveLeg{Seconds: 10, Depth: 100}, api.DiveLeg{Seconds: 11, Depth: 200}),
			api.DivePlan{Name: "d", Surface: 1000, Gases: []api.Gas{air}, Legs: []api.DiveLeg{{Seconds: 10, Depth: 100}, {Seconds: 11, Depth: 200}}}},
		{"down and up", dive(api.DiveLeg{Seconds: 10, Depth: 100}, api.DiveLeg{Seconds: 10}),
			api.DivePlan{Name: "d", Surface: 1000, Gases: []api.Gas{air}, Legs: []api.DiveLeg{{Seconds: 10, Depth: 100}, {Seconds: 10}}}},
		{"another gas, other helium", api.DivePlan{Name: "d", Surface: 1000, Gases: []api.Gas{half, helium, air, half},
			Legs: []api.DiveLeg{{Seconds: 1, Depth: 5, Gas: 2}, {Seconds: 1, Depth: 10, Gas: 1}, {Seconds: 1, Depth: 15, Gas: 3}, {Seconds: 1, Depth: 20, Gas: 2}}},
			api.DivePlan{Name: "d", Surface: 1000, Gases: []api.Gas{air, helium, half},
				Legs: []api.DiveLeg{{Seconds: 1, Depth: 5}, {Seconds: 1, Depth: 10, Gas: 1}, {Seconds: 1, Depth: 15, Gas: 2}, {Seconds: 1, Depth: 20}}}},
		{"as long as may be", manyLegs(), api.DivePlan{Name: "Zz9-zzzzzzzz", Surface: 1100, Gases: []api.Gas{{Oxygen: 600, Helium: 400}},
			Legs: []api.DiveLeg{{Seconds: 1, Depth: 30000}, {Seconds: 999999, Depth: 30000}}}},
	} {
		x, e := profile.Normal(c.p)
		expect(t, "Normal, "+c.name, x, e, c.want, api.OK)
	}
}

// P2.10: Normal of a normal form is the same, and has the depths and gases of the plan.
func TestNormalOfMany(t *testing.T) {
	somePlans(500, func(p api.DivePlan) {
		x, e := profile.Normal(p)
		if e != api.OK {
			t.Fatalf("Normal(%v): error %d", p, e)
		}
		again, e := profile.Normal(x)
		expect(t, "Normal again "+flat(p), again, e, x, api.OK)
		expect(t, "the end "+flat(p), secondsOf(x), api.OK, secondsOf(p), api.OK)
		for second := range secondsOf(p) + 1 {
			d, g := depthAt(p, second)
			d2, g2 := depthAt(x, second)
			if d.Cmp(d2) != 0 || g != g2 {
				t.Errorf("Normal(%v) at %d: %v, %v", p, second, d2, g2)
			}
		}
		is, e := profile.SameDive(p, x)
		expect(t, "SameDive "+flat(p), is, e, true, api.OK)
		n, e := profile.FirstDiffer(p, x)
		refuse(t, "FirstDiffer "+flat(p), n, e, api.ErrNone)
	})
}

// P2.3: the same dive has another name, or other legs and gases of the same normal form, but the same surface.
func TestSameDive(t *testing.T) {
	for _, c := range []struct {
		name string
		b    api.DivePlan
		want bool
	}{
		{"itself", reef(), true},
		{"another name", changed(func(p *api.DivePlan) { p.Name = "q" }), true},
		{"a gas that is not used", changed(func(p *api.DivePlan) { p.Gases = append(p.Gases, api.Gas{}) }), true},
		{"a leg that is two", changed(func(p *api.DivePlan) {
			p.Legs[0].Seconds, p.Legs[0].Depth = 20, 600
			p.Legs = slices.Insert(p.Legs, 1, api.DiveLeg{Seconds: 40, Depth: 1800})
		}), true},
		{"other numbers of gases", changed(func(p *api.DivePlan) {
			p.Gases[0], p.Gases[1] = half, air
			for i := range p.Legs {
				p.Legs[i].Gas = 1 - p.Legs[i].Gas
			}
		}), true},
		{"another surface", changed(func(p *api.DivePlan) { p.Surface = 1012 }), false},
		{"another gas", changed(func(p *api.DivePlan) { p.Gases[1].Helium = 1 }), false},
		{"other seconds", changed(func(p *api.DivePlan) { p.Legs[1].Seconds++ }), false},
		{"another depth", changed(func(p *api.DivePlan) { p.Legs[3].Depth++ }), false},
		{"no last leg", changed(func(p *api.DivePlan) { p.Legs = p.Legs[:3] }), false},
	} {
		is, e := profile.SameDive(reef(), c.b)
		expect(t, "SameDive, "+c.name, is, e, c.want, api.OK)
		is, e = profile.SameDive(c.b, reef())
		expect(t, "SameDive the other way round, "+c.name, is, e, c.want, api.OK)
	}
}

// P2.3: the first second at which depth, gas or end differ; name and surface are not looked at.
func TestFirstDiffer(t *testing.T) {
	for _, c := range []struct {
		name   string
		a, b   api.DivePlan
		want   int
		wanted api.Errno
	}{
		{"itself", reef(), reef(), 0, api.ErrNone},
		{"a longer stay", reef(), changed(func(p *api.DivePlan) { p.Legs[1].Seconds = 601 }), 661, api.OK},
		{"name and surface", reef(), changed(func(p *api.DivePlan) { p.Name, p.Surface = "q", 400 }), 0, api.ErrNone},
		{"the last gas", reef(), changed(func(p *api.DivePlan) { p.Legs[3].Gas = 0 }), 781, api.OK},
		{"its helium", reef(), changed(func(p *api.DivePlan) { p.Gases[1].Helium = 7 }), 781, api.OK},
		{"the first gas", reef(), changed(func(p *api.DivePlan) { p.Legs[0].Gas = 1 }), 1, api.OK},
		{"no last leg", reef(), changed(func(p *api.DivePlan) { p.Legs = p.Legs[:3] }), 781, api.OK},
		{"a shorter last leg", reef(), changed(func(p *api.DivePlan) { p.Legs[3].Seconds = 299 }), 1080, api.OK},
		{"no legs at all", dive(), dive(), 0, api.ErrNone},
		{"no legs", dive(), dive(api.DiveLeg{Seconds: 1}), 1, api.OK},
		{"less than a centimetre", dive(api.DiveLeg{Seconds: 1000, Depth: 1}), dive(api.DiveLeg{Seconds: 1000}), 1, api.OK},
		{"less than a centimetre, late", dive(api.DiveLeg{Seconds: 999998}, api.DiveLeg{Seconds: 2, Depth: 1}), dive(api.DiveLeg{Seconds: 1000000}), 999999, api.OK},
		{"crossing", dive(api.DiveLeg{Seconds: 5, Depth: 10}, api.DiveLeg{Seconds: 5}), dive(api.DiveLeg{Seconds: 5, Depth: 10}, api.DiveLeg{Seconds: 6}), 6, api.OK},
		{"other legs, the same way", dive(api.DiveLeg{Seconds: 3, Depth: 3}, api.DiveLeg{Seconds: 4, Depth: 7, Gas: 2}), dive(api.DiveLeg{Seconds: 7, Depth: 7}), 0, api.ErrNone},
	} {
		n, e := profile.FirstDiffer(c.a, c.b)
		expect(t, "FirstDiffer, "+c.name, n, e, c.want, c.wanted)
		n, e = profile.FirstDiffer(c.b, c.a)
		expect(t, "FirstDiffer the other way round, "+c.name, n, e, c.want, c.wanted)
	}
}

// P2.3: second by second, among plans that have much in common.
func TestFirstDifferOfMany(t *testing.T) {
	var last api.DivePlan
	somePlans(1500, func(p api.DivePlan) {
		compare(t, p, last)
		for i := range p.Legs {
			q := copyOf(p)
			q.Legs[i].Depth = (q.Legs[i].Depth + 3) % 15
			compare(t, p, q)
			q = copyOf(p)
			q.Legs[i].Gas = (q.Legs[i].Gas + 1) % len(q.Gases)
			compare(t, p, q)
			q = copyOf(p)
			q.Legs[i].Seconds++
			compare(t, p, q)
		}
		last = p
	})
}

func compare(t *testing.T, a, b api.DivePlan) {
	t.Helper()
	if b.Name == "" {
		return
	}
	want, wanted := 0, api.ErrNone
	for second := max(secondsOf(a), secondsOf(b)); second >= 0; second-- {
		d, g := depthAt(a, second)
		d2, g2 := depthAt(b, second)
		if (secondsOf(a) < second) != (secondsOf(b) < second) || d.Cmp(d2) != 0 || second > 0 && g != g2 {
			want, wanted = second, api.OK
		}
	}
	n, e := profile.FirstDiffer(a, b)
	expect(t, "FirstDiffer "+flat(a)+flat(b), n, e, want, wanted)
}

// P2.10: Before and the rest of the legs make the plan again, but for the normal form.
func TestBeforeAndTheRest(t *testing.T) {
	cut := func(p api.DivePlan, second int) {
		first, e := profile.Before(p, second)
		depth, _ := depthAt(p, second)
		if !depth.IsInt() {
			refuse(t, "Before "+flat(p), first, e, api.ErrForm)
			return
		}
		end := 0
		var rest []api.DiveLeg
		for _, leg := range p.Legs {
			end += leg.Seconds
			if end > second {
				leg.Seconds = min(leg.Seconds, end-second)
				rest = append(rest, leg)
			}
		}
		x, e2 := profile.Extended(first, rest)
		is, e3 := profile.SameDive(x, p)
		if e != api.OK || e2 != api.OK || e3 != api.OK || !is {
			t.Errorf("Before(%v, %d): %v, errors %d, %d, %d", p, second, first, e, e2, e3)
		}
	}
	somePlans(500, func(p api.DivePlan) {
		for second := range secondsOf(p) + 1 {
			cut(p, second)
		}
	})
	for second := range 1081 {
		cut(reef(), second)
	}
}
