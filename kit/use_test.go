package kit_test

import (
	"slices"
	"testing"

	"shotline/api"
	"shotline/kit"
)

// P7.3: the reasons of the examples.
func TestUsable(t *testing.T) {
	k, l := shed(), diary()
	usable(t, k, l, at("a", 7), foul("c1", 0))
	usable(t, k, l, at("b", 7), foul("c1", 0))
	usable(t, k, l, at("c1", 7), foul("c1", 0))
	usable(t, k, l[:2], at("c1", 7))
	usable(t, k, l[:2], at("b", 7))
	// The reasons of rules come ahead of those of air. What was not bought yet has no reason for this.
	usable(t, k, l, at("a", 1000), foul("c1", 0))
	usable(t, k, l, at("a", 1001), broken(api.ReasonDays, "test"), foul("c1", 0))
	usable(t, k, l, at("r", 7))
	l = append(l, empty(8, "b"), air(9, "c1", true), fill(9, "c1", "b"))
	usable(t, k, l, at("b", 9))
	usable(t, k, l, at("a", 9), foul("c1", 0))
	usable(t, k, l, at("c1", 9))
	usable(t, k, nil, at("r", 0))
	usable(t, k, nil, at("r", 465))
	usable(t, k, nil, at("r", 466), broken(api.ReasonDays, "service"))
	usable(t, k, nil, at("c1", 100000))
}

// P7.3: the first of the reasons of a rule; a check on the day of a use counts in the order of the events.
func TestReasonsOfRules(t *testing.T) {
	k := shed()
	l := []api.KitEvent{use(150, "r")}
	usable(t, k, l, at("r", 150))
	l = append(l, use(150, "r"))
	usable(t, k, l, at("r", 150), broken(api.ReasonUses, "service"))
	usable(t, k, l, at("r", 465), broken(api.ReasonUses, "service"))
	usable(t, k, l, at("r", 466), broken(api.ReasonDays, "service"))
	l = append(l, checked(150, "r", "service", true))
	usable(t, k, l, at("r", 515))
	usable(t, k, l, at("r", 516), broken(api.ReasonDays, "service"))
	l = append(l, use(150, "r"), use(150, "r"))
	usable(t, k, l, at("r", 150), broken(api.ReasonUses, "service"))
	l = append(l, checked(200, "r", "service", false))
	usable(t, k, l, at("r", 200), broken(api.ReasonFailed, "service"))
	usable(t, k, l, at("r", 2000), broken(api.ReasonFailed, "service"))
	l = append(l, checked(200, "r", "service", true))
	usable(t, k, l, at("r", 565))
	usable(t, k, l, at("r", 566), broken(api.ReasonDays, "service"))
}

// P7.3: several rules of a kind, in their order; those of other kinds, and checks of other items, do not count.
func TestReasonsOfSeveralRules(t *testing.T) {
	k := api.KitSetup{
		Items: []api.KitItem{{Name: "x", Kind: api.KitOther, Bought: 10}, {Name: "y", Kind: api.KitOther, Bought: 20}, {Name: "z", Kind: api.KitRegulator}},
		Rules: []api.KitRule{{Name: "z", Kind: api.KitOther, Days: 5, Uses: 1}, {Name: "m", Kind: api.KitRegulator, Uses: 1}, {Name: "a", Kind: api.KitOther, Uses: 3}, {Name: "k", Kind: api.KitOther, Days: 3}},
	}
	usable(t, k, nil, at("x", 13))
	usable(t, k, nil, at("x", 14), broken(api.ReasonDays, "k"))
	usable(t, k, nil, at("x", 16), broken(api.ReasonDays, "z"), broken(api.ReasonDays, "k"))
	usable(t, k, nil, at("y", 23))
	usable(t, k, nil, at("z", 100000))
	l := []api.KitEvent{use(12, "x"), use(12, "z")}
	usable(t, k, l, at("x", 12), broken(api.ReasonUses, "z"))
	usable(t, k, l, at("y", 12))
	usable(t, k, l, at("z", 12), broken(api.ReasonUses, "m"))
	l = append(l, checked(12, "y", "z", false), checked(12, "x", "a", false))
	n, e := kit.CheckEvents(k, l)
	expect(t, "a check before y was bought", n, e, 2, api.ErrEarly)
	l = append(l[:2], checked(20, "y", "z", false), checked(20, "x", "a", false))
	usable(t, k, l, at("x", 20), broken(api.ReasonDays, "z"), broken(api.ReasonFailed, "a"), broken(api.ReasonDays, "k"))
	usable(t, k, l, at("y", 20), broken(api.ReasonFailed, "z"))
	l = append(l, checked(20, "x", "z", true), checked(20, "x", "k", true))
	usable(t, k, l, at("x", 20), broken(api.ReasonFailed, "a"))
	// A use counts for each rule, whichever was checked.
	l = append(l, checked(20, "x", "a", true), use(20, "x"), checked(20, "x", "z", true), use(20, "x"), checked(20, "x", "z", true), use(20, "x"))
	usable(t, k, l, at("x", 20), broken(api.ReasonUses, "z"), broken(api.ReasonUses, "a"))
	l = append(l, checked(21, "x", "z", true))
	usable(t, k, l, at("x", 21), broken(api.ReasonUses, "a"))
}

// P7.3: the reasons of air in the order of the items of the compressors, those of one ascending.
func TestReasonsOfAir(t *testing.T) {
	k := api.KitSetup{Items: []api.KitItem{{Name: "z", Kind: api.KitCompressor}, {Name: "a", Kind: api.KitCylinder}, {Name: "b", Kind: api.KitCylinder}, {Name: "c", Kind: api.KitCompressor}, {Name: "d", Kind: api.KitCylinder}}}
	var l []api.KitEvent
	for range 12 {
		l = append(l, fill(1, "c", "a"), air(1, "c", true))
	}
	l = append(l, fill(1, "c", "a"), fill(1, "z", "b"), air(2, "z", true), fill(2, "z", "b"), fill(2, "b", "a"), air(2, "z", false), air(2, "c", false))
	usable(t, k, l, at("a", 2), foul("z", 1), foul("c", 12))
	usable(t, k, l, at("b", 2), foul("z", 1))
	usable(t, k, l, at("c", 2), foul("c", 12))
	usable(t, k, l, at("z", 2), foul("z", 1))
	usable(t, k, l, at("d", 2))
	// What is bad stays bad behind an analysis that passes, and the compressor runs again.
	l = append(l, air(3, "c", false), air(3, "c", true), fill(3, "c", "d"), air(3, "c", false))
	usable(t, k, l, at("a", 3), foul("z", 1), foul("c", 12))
	usable(t, k, l, at("d", 3), foul("c", 13))
	usable(t, k, l, at("c", 3), foul("c", 13))
	l = append(l, air(3, "c", true), empty(3, "d"))
	usable(t, k, l, at("d", 3))
	usable(t, k, l, at("c", 3))
}

// P7.3: the errors of a case.
func TestWrongCases(t *testing.T) {
	k, l := shed(), diary()
	for _, test := range []struct {
		c api.KitCase
		e api.Errno
	}{
		{at("x", -1), api.ErrMissing},
		{at("", 7), api.ErrMissing},
		{at("test", 7), api.ErrMissing},
		{at("a", -1), api.ErrRange},
		{at("a", 100001), api.ErrRange},
		{at("a", 0), api.ErrEarly},
		{at("a", 6), api.ErrEarly},
		{at("r", 6), api.ErrEarly},
	} {
		is, reasons, e := kit.Usable(k, l, test.c)
		refuse(t, flat(test.c), reasons, e, test.e)
		refuse(t, flat(test.c), is, e, test.e)
	}
	usable(t, k, l[:2], at("a", 6))
	usable(t, k, l[:2], at("a", 100000), broken(api.ReasonDays, "test"))
}

// P7.3: what may not be used any more behind an event.
func TestLost(t *testing.T) {
	k, l := shed(), diary()
	for _, test := range []struct {
		l    []api.KitEvent
		x    api.KitEvent
		want []string
	}{
		{l[:2], l[2], []string{"c1", "a", "b"}},
		{l[:1], l[2], []string{"c1", "a"}},
		{nil, l[2], []string{"c1"}},
		{l, air(7, "c1", false), nil},
		{l, air(7, "c1", true), nil},
		{l, empty(7, "b"), nil},
		// a and b are too old on the day of the analysis, so they are not lost by it.
		{l[:2], air(1001, "c1", false), []string{"c1"}},
		{l[:2], air(1000, "c1", false), []string{"c1", "a", "b"}},
		{nil, use(150, "r"), nil},
		{[]api.KitEvent{use(150, "r")}, use(160, "r"), []string{"r"}},
		{nil, checked(150, "r", "service", false), []string{"r"}},
		{nil, checked(466, "r", "service", false), nil},
		{nil, checked(466, "r", "service", true), nil},
		{nil, checked(7, "b", "test", false), []string{"b"}},
		{l, checked(7, "b", "test", false), nil},
		{l, checked(7, "b", "test", true), nil},
		{l[:1], fill(6, "a", "b"), nil},
	} {
		got, e := kit.Lost(k, test.l, test.x)
		expect(t, "Lost of "+flat(test.x), got, e, test.want, api.OK)
	}
	for _, x := range []api.KitEvent{use(7, "a"), use(6, "b"), {Kind: 8}, fill(7, "a", "a"), use(8, "r")} {
		_, wanted := kit.AddEvent(k, l, x)
		got, e := kit.Lost(k, l, x)
		refuse(t, "Lost of "+flat(x), got, e, wanted)
		if wanted == api.OK {
			t.Errorf("%+v is right", x)
		}
	}
}

// P7.3, P7.6: what may be used, and what is lost, as the definitions tell. What is used, filled, or filled from may be used at
// that moment; a bad analysis changes this only for the compressor and for what its present batch has reached.
func TestUsableByChance(t *testing.T) {
	reasons, lost := 0, 0
	someShops(300, 60, func(c chance, m model, _ map[int][]api.KitEvent) {
		for n, x := range m.l {
			before, behind := m.before(n), m.before(n+1)
			var want []string
			for _, i := range m.k.Items {
				was, is := before.reasons(i.Name, x.Day), behind.reasons(i.Name, x.Day)
				usable(t, m.k, m.l[:n+1], at(i.Name, x.Day), is...)
				later := x.Day + c.Intn(60)
				usable(t, m.k, m.l[:n+1], at(i.Name, later), behind.reasons(i.Name, later)...)
				if len(was) == 0 && len(is) > 0 {
					want = append(want, i.Name)
				}
				if len(was) > 0 && (x.Kind == api.KitUse || x.Kind == api.KitFill) && (i.Name == x.Item || i.Name == x.From) {
					t.Errorf("%+v behind %+v: %s is used", x, before, i.Name)
				}
				reasons += len(is)
			}
			got, e := kit.Lost(m.k, m.l[:n], x)
			expect(t, "Lost of "+flat(x)+" behind "+flat(before), got, e, want, api.OK)
			lost += len(got)
			checkLost(t, before, x, got)
		}
	})
	if reasons < 1000 || lost < 200 {
		t.Errorf("there were only %d reasons, and %d lost items", reasons, lost)
	}
}

// checkLost: P7.6, P7.8: which items an event may take away.
func checkLost(t *testing.T, m model, x api.KitEvent, lost []string) {
	t.Helper()
	allowed := []string{x.Item}
	if x.Kind == api.KitAir && !x.Passed {
		reached, e := kit.Reached(m.k, m.l, batch(x.Item, m.present(x.Item)))
		expect(t, "Reached", nil, e, nil, api.OK)
		allowed = append(allowed, reached...)
	}
	for _, name := range lost {
		if !slices.Contains(allowed, name) {
			t.Errorf("%+v behind %+v takes %s away", x, m, name)
		}
	}
	if len(lost) > 0 && (x.Kind == api.KitFill || x.Kind == api.KitEmpty || x.Passed) {
		t.Errorf("%+v behind %+v takes %v away", x, m, lost)
	}
}
