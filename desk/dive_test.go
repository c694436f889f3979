package desk_test

import (
	"testing"

	"shotline/api"
	"shotline/desk"
	"shotline/exposure"
	"shotline/profile"
	"shotline/tissue"
)

// P10.4: how far a recorded profile is from the points of the plan that counts.
func TestDeviation(t *testing.T) {
	h := house()
	r, e := desk.Deviation(h, diary(), "d1")
	expect(t, "Deviation", r, e, api.Range{Lo: 50, Hi: 50}, api.OK)
	r, e = desk.Deviation(small(), more(example(), "ann record d1 0 0 600 0"), "d1")
	expect(t, "Deviation of the example", r, e, api.Range{}, api.OK)
	// At the second 60 the plan has 1800, the record 900 * 60 / 61 = 885.2; at 61 the record has 900, the plan 1800.
	log := more(diary(), "eve record d2 0 0 61 900 660 1800 780 600 1080 600")
	r, e = desk.Deviation(h, log, "d2")
	expect(t, "Deviation", r, e, api.Range{Lo: 914, Hi: 915}, api.OK)
	// At 660 the plan has 1800, the record 1810 - 1210 * 600 / 1020 = 1098.2.
	r, e = desk.Deviation(h, more(log, "bob fix 11 record d2 0 0 60 1810 1080 600"), "d2")
	expect(t, "Deviation", r, e, api.Range{Lo: 701, Hi: 702}, api.OK)
	for _, name := range []string{"", "d3", "D1"} {
		r, e := desk.Deviation(h, log, name)
		refuse(t, "Deviation", r, e, api.ErrMissing)
	}
	r, e = desk.Deviation(h, diary(), "d2")
	refuse(t, "Deviation without a record", r, e, api.ErrNone)
	for _, line := range []string{"0 0 299 0", "0 0 301 0", "1 0 300 0"} {
		r, e := desk.Deviation(h, more(diary(), "bob fix 8 record d1 "+line), "d1")
		refuse(t, "Deviation of other seconds", r, e, api.ErrClash)
	}
	// A plan without legs has one point.
	r, e = desk.Deviation(h, more(diary(), "bob fix 3 plan p 1000 1 210 0"), "d1")
	refuse(t, "Deviation of no legs", r, e, api.ErrShape)
	r, e = desk.Deviation(h, more(diary(), "bob fix 3 plan p 1000 1 210 0", "bob dive d3 p bob 2 0 o2"), "d3")
	refuse(t, "Deviation without a record, and legs", r, e, api.ErrNone)
}

// P10.4: what is needed at a second, and what there was of it ahead of the dive.
func TestDrill(t *testing.T) {
	h := house()
	h.Rules.Ascent = 1000
	// What comes behind the dive does not count, nor does the dive itself.
	log := more(diary(), "bob fill in 2 c1 210 0 1000000", "bob fill vent 2 o2 100000", "ann dive d3 p ann 3 0 o2")
	drill := func(dive string, second int) (api.DeskNeed, api.Errno) {
		return desk.Drill(h, log, api.DeskMoment{Dive: dive, Second: second})
	}
	n, e := drill("d2", 660)
	expect(t, "Drill", n, e, api.DeskNeed{Gas: 0, Need: 851116, There: 2300000}, api.OK)
	n, e = drill("d1", 0)
	expect(t, "Drill at the surface", n, e, api.DeskNeed{Gas: 0, Need: 40000, There: 2400000}, api.OK)
	n, e = drill("d1", 300)
	expect(t, "Drill at the end", n, e, api.DeskNeed{Gas: 0, Need: 140000, There: 2400000}, api.OK)
	for second, gas := range map[int]int{780: 0, 781: 1, 1080: 1} {
		p, _ := profile.ParsePlanLine(diary()[3].Text[5:])
		_, need, _ := exposure.NeedAt(p, h.Rules, second)
		n, e = drill("d2", second)
		expect(t, "Drill", n, e, api.DeskNeed{Gas: gas, Need: need, There: []int{2300000, 1000000}[gas]}, api.OK)
	}
	n, e = drill("d3", 0)
	expect(t, "Drill of a later dive", n, e, api.DeskNeed{Gas: 0, Need: 40000, There: 1000000 - 161300 - 100000}, api.OK)
	for _, name := range []string{"", "d4", "D2"} {
		n, e := drill(name, -1)
		refuse(t, "Drill", n, e, api.ErrMissing)
	}
	for _, second := range []int{-1, 1081, 1000001} {
		n, e := drill("d2", second)
		refuse(t, "Drill", n, e, api.ErrRange)
	}
	log = more(log, "bob fix 3 plan p 1000 1 210 0")
	n, e = drill("d1", 0)
	refuse(t, "Drill without legs", n, e, api.ErrNone)
	n, e = drill("d1", 1)
	refuse(t, "Drill without legs", n, e, api.ErrRange)
	n, e = drill("d2", 660)
	expect(t, "Drill behind a fix", n, e, api.DeskNeed{Gas: 0, Need: 851116, There: 2400000}, api.OK)
	h.Rules.Breath = 1
	log = more(log, "bob fix 3 plan p 1000 1 210 0 20001 0 0")
	n, e = drill("d1", 20002)
	refuse(t, "Drill of a long plan", n, e, api.ErrLarge)
	// More than MaxAmount is held by several gases together.
	log = entries("bob fill in 0 bank 210 100 1000", "bob plan p 1000 1 210 0 60 0 0", "bob dive d p bob 0 0 bank")
	n, e = drill("d", 0)
	expect(t, "Drill with three gases", n.There, e, 1000, api.OK)
}

// calm is a desk of slow compartments where little is breathed.
func calm() (api.DiveDesk, []api.DeskEntry) {
	h := house()
	h.Rules.Breath = 1
	h.Table = []api.Compartment{{Nitrogen: 100000, Helium: 50000, Base: 500, Slope: 1500}, {Nitrogen: 600, Helium: 240, Base: 500, Slope: 1500}}
	return h, entries(
		"bob fill in 0 bank 210 0 9000000",
		"ann plan p 1000 1 180 450 3600 3000 0 3600 0 0",
		"ann plan q 900 1 210 0 600 2000 0 600 2000 0 600 0 0",
		"ann plan none 1100 1 210 0",
	)
}

func loads(t *testing.T, h api.DiveDesk, log []api.DeskEntry, diver string, want []api.TissueLoad) {
	t.Helper()
	l, e := desk.LoadsOf(h, log, diver)
	expect(t, "LoadsOf", l, e, want, api.OK)
}

// followed are the loads behind a plan, saturated those ahead of a first dive, rested those ahead of a later one.
func followed(h api.DiveDesk, l []api.TissueLoad, log []api.DeskEntry, plan int) []api.TissueLoad {
	p, _ := profile.ParsePlanLine(log[plan].Text[5:])
	legs, _ := tissue.LegsOf(p)
	for _, x := range legs {
		l, _ = tissue.Loaded(h.Table, l, x, 2)
	}
	return l
}

func saturated(h api.DiveDesk, surface int) []api.TissueLoad {
	l, _ := tissue.Saturated(h.Table, api.Gas{Oxygen: 210}, surface)
	return l
}

func rested(h api.DiveDesk, l []api.TissueLoad, surface, seconds int) []api.TissueLoad {
	l, _ = tissue.Rested(h.Table, l, surface, seconds)
	return l
}

// P10.4: the loads behind dives, with the rest between, at the surface of the later plan.
func TestLoadsOf(t *testing.T) {
	h, log := calm()
	l, e := desk.LoadsOf(small(), example(), "ann")
	expect(t, "LoadsOf of the example", l, e, []api.TissueLoad{{Nitrogen: api.Range{Lo: 740230, Hi: 740230}}}, api.OK)
	log = more(log, "ann dive d1 p ann 1 100 bank")
	first := followed(h, saturated(h, 1000), log, 1)
	loads(t, h, log, "ann", first)
	// The rest is 86400 and 0 less 100 and 7200.
	second := followed(h, rested(h, first, 900, 79100), log, 2)
	loads(t, h, more(log, "ann dive d2 q ann 2 0 bank"), "ann", second)
	// Dives of others in between are no dives of this diver.
	log = more(log, "eve dive d3 q eve 1 200 bank", "ann dive d2 q ann 2 0 bank", "bob dive d4 p bob 2 0 bank")
	loads(t, h, log, "ann", second)
	loads(t, h, log, "eve", followed(h, saturated(h, 900), log, 2))
	loads(t, h, log, "bob", first)
	// A third dive begins at the end of the second one.
	third := followed(h, rested(h, second, 1000, 0), log, 1)
	loads(t, h, more(log, "ann dive d5 p ann 2 1800 bank"), "ann", third)
	// Without legs there is the rest alone.
	loads(t, h, more(log, "ann dive d5 none ann 2 1860 bank"), "ann", rested(h, second, 1100, 60))
	loads(t, h, more(log, "bob plan x 1050 1 210 0", "mel dive d5 x mel 2 1860 bank"), "mel", saturated(h, 1050))
	// The plan that counts is followed, and who the diver is may be fixed.
	loads(t, h, more(log, "bob fix 3 plan q 900 1 210 0 600 2000 0"), "eve", followed(h, saturated(h, 900), entries("x plan q 900 1 210 0 600 2000 0"), 0))
	loads(t, h, more(log, "bob fix 8 dive d4 q bob 2 0 bank"), "bob", followed(h, saturated(h, 900), log, 2))
}

// P10.4: a rest is at most 1000000 seconds.
func TestLongRest(t *testing.T) {
	h, log := calm()
	h.Table = nil
	for i := range 16 {
		h.Table = append(h.Table, api.Compartment{Nitrogen: 100000 - 999*i, Helium: 100000 - 777*i, Base: 500, Slope: 1500})
	}
	log = more(log, "bob fix 2 plan p 1000 1 0 450 100000 30000 0 100000 30000 0", "ann dive d1 p ann 0 0 bank")
	first := followed(h, saturated(h, 1000), entries("ann plan p 1000 1 0 450 100000 30000 0 100000 30000 0"), 0)
	// The dive ends at the second 200000; the day 13 begins at 1123200.
	for begin, rest := range map[string]int{"13 76799": 999999, "13 76800": 1000000, "13 76801": 1000000, "25 0": 1000000, "100000 86399": 1000000} {
		want := followed(h, rested(h, first, 900, rest), log, 2)
		loads(t, h, more(log, "ann dive d2 q ann "+begin+" bank"), "ann", want)
	}
	before, at := rested(h, first, 900, 999999), rested(h, first, 900, 1000000)
	if flat(followed(h, before, log, 2)) == flat(followed(h, at, log, 2)) {
		t.Error("a second of rest does not matter")
	}
}

// P10.4: of whom there are no loads.
func TestNoLoads(t *testing.T) {
	h, log := calm()
	log = more(log, "ann dive d1 p ann 0 0 bank")
	for diver, wanted := range map[string]api.Errno{"": api.ErrMissing, "zed": api.ErrMissing, "Ann": api.ErrMissing, "d1": api.ErrMissing, "eve": api.ErrNone, "bob": api.ErrNone} {
		l, e := desk.LoadsOf(h, log, diver)
		refuse(t, "LoadsOf "+diver, l, e, wanted)
	}
	// A leg of a plan may last longer than a leg of tissue.
	log = more(log, "bob plan slow 1000 1 210 0 100001 0 0", "bob plan fair 1000 1 210 0 100000 0 0")
	for _, l := range [][]string{
		{"eve dive d2 slow eve 0 0 bank"},
		{"eve dive d2 slow eve 0 0 bank", "eve dive d3 p eve 5 0 bank"},
		{"eve dive d2 p eve 0 0 bank", "eve dive d3 slow eve 5 0 bank"},
	} {
		loads, e := desk.LoadsOf(h, more(log, l...), "eve")
		refuse(t, "LoadsOf behind a long leg", loads, e, api.ErrRange)
	}
	_, e := desk.LoadsOf(h, more(log, "eve dive d2 fair eve 0 0 bank"), "eve")
	if e != api.OK {
		t.Errorf("a leg of 100000 seconds: error %d", e)
	}
	_, e = desk.LoadsOf(h, more(log, "eve dive d2 slow eve 0 0 bank"), "ann")
	if e != api.OK {
		t.Errorf("the long leg of another diver: error %d", e)
	}
}

// P10.4: which dives nobody has signed, in the order of the dives.
func TestUnsigned(t *testing.T) {
	log := more(diary()[:8], "bob plan none 1000 1 210 0", "bob dive b none bob 0 0 o2", "bob dive a none ann 5 0 o2")
	for _, x := range []struct {
		signs []string
		want  []string
	}{
		{nil, []string{"d1", "d2", "b", "a"}},
		{[]string{"mel sign d2"}, []string{"d1", "b", "a"}},
		{[]string{"mel sign d2", "ann sign d2", "ann sign b"}, []string{"d1", "a"}},
		{[]string{"mel sign d2", "bob fix 12 sign a"}, []string{"d1", "d2", "b"}},
		{[]string{"mel sign d2", "mel sign d1", "mel sign a", "mel sign b"}, nil},
	} {
		l, e := desk.Unsigned(house(), more(log, x.signs...))
		expect(t, "Unsigned", l, e, x.want, api.OK)
	}
	l, e := desk.Unsigned(house(), nil)
	expect(t, "Unsigned of no entries", l, e, []string(nil), api.OK)
}

// P10.4: what is told of dives by chance.
func TestDivesByModel(t *testing.T) {
	counts := map[string]map[api.Errno]int{"Deviation": {}, "Drill": {}, "LoadsOf": {}}
	someLogs(100, func(c chance, m made) {
		h, log := m.h, m.log
		s := m.stateOf()
		for _, name := range []string{"ann", "eve", "mel", "bob", "zed"} {
			want, wanted := m.loads(name)
			l, e := desk.LoadsOf(h, log, name)
			expect(t, "LoadsOf", l, e, want, wanted)
			counts["LoadsOf"][e]++
		}
		var unsigned []string
		for _, d := range s.Dives {
			signed := false
			for _, x := range s.Signs {
				signed = signed || x.Dive == d.Name
			}
			if !signed {
				unsigned = append(unsigned, d.Name)
			}
			want, wanted := m.deviation(d)
			r, e := desk.Deviation(h, log, d.Name)
			expect(t, "Deviation", r, e, want, wanted)
			counts["Deviation"][e]++
			for _, second := range []int{0, c.Intn(1000), c.Intn(4000)} {
				want, wanted := m.drill(d, second)
				n, e := desk.Drill(h, log, api.DeskMoment{Dive: d.Name, Second: second})
				expect(t, "Drill", n, e, want, wanted)
				counts["Drill"][e]++
			}
		}
		l, e := desk.Unsigned(h, log)
		expect(t, "Unsigned", l, e, unsigned, api.OK)
	})
	for name, errors := range map[string][]api.Errno{
		"Deviation": {api.OK, api.ErrNone, api.ErrShape, api.ErrClash},
		"Drill":     {api.OK, api.ErrRange, api.ErrNone, api.ErrLarge},
		"LoadsOf":   {api.OK, api.ErrNone, api.ErrRange},
	} {
		for _, e := range errors {
			if counts[name][e] < 5 {
				t.Errorf("the error %d of %s comes %d times only", e, name, counts[name][e])
			}
		}
	}
}

// deviation is that of a dive from its plan.
func (m model) deviation(d api.DeskDive) (api.Range, api.Errno) {
	s := m.stateOf()
	p, _ := planOf(s, d.Plan)
	points := []api.DivePoint{{}}
	for _, leg := range p.Legs {
		points = append(points, api.DivePoint{Second: points[len(points)-1].Second + leg.Seconds, Depth: leg.Depth})
	}
	for _, r := range s.Records {
		if r.Dive == d.Name {
			return profile.Distance(points, r.Points)
		}
	}
	return api.Range{}, api.ErrNone
}

// drill is what is needed at a second of a dive, and what was there behind the facts ahead of it.
func (m model) drill(d api.DeskDive, second int) (api.DeskNeed, api.Errno) {
	s := m.stateOf()
	p, _ := planOf(s, d.Plan)
	gas, need, e := exposure.NeedAt(p, m.h.Rules, second)
	if e != api.OK {
		return api.DeskNeed{}, e
	}
	facts := m.counting()
	for place := range facts {
		before, _ := m.state(facts[:place])
		after, _ := m.state(facts[:place+1])
		if _, ok := diveOf(after, d.Name); ok {
			c := m.held(before.Fills, d.Vessels[gas])
			return api.DeskNeed{Gas: gas, Need: need, There: c.Oxygen + c.Helium + c.Nitrogen}, api.OK
		}
	}
	panic("no such dive")
}
