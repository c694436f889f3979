package kit_test

import (
	"slices"
	"testing"

	"shotline/api"
	"shotline/kit"
)

// P7.4: the days that are left; what is asked for may lie before the last event, or before the check.
func TestDaysLeft(t *testing.T) {
	k := shed()
	l := []api.KitEvent{checked(200, "r", "service", true), use(300, "r")}
	for _, test := range []struct {
		l    []api.KitEvent
		d    api.KitDue
		want int
	}{
		{nil, due("r", "service", 465), 0},
		{nil, due("r", "service", 464), 1},
		{nil, due("r", "service", 470), -5},
		{nil, due("r", "service", 0), 465},
		{nil, due("a", "test", 5), 995},
		{nil, due("b", "test", 100000), -99000},
		{l, due("r", "service", 200), 365},
		{l, due("r", "service", 565), 0},
		{l, due("r", "service", 199), 366},
		{append(l, use(300, "r")), due("r", "service", 300), 265},
		{[]api.KitEvent{checked(10, "a", "test", true)}, due("a", "test", 10), 1000},
		{[]api.KitEvent{checked(10, "a", "test", true)}, due("b", "test", 10), 990},
		{[]api.KitEvent{checked(10, "a", "test", false), checked(11, "a", "test", true)}, due("a", "test", 10), 1001},
	} {
		got, e := kit.DaysLeft(k, test.l, test.d)
		expect(t, "DaysLeft of "+flat(test.d), got, e, test.want, api.OK)
	}
	// Days of 365: a check on day 10 is good up to day 375.
	k.Items[3].Bought = 10
	got, e := kit.DaysLeft(k, nil, due("r", "service", 375))
	expect(t, "DaysLeft on the last good day", got, e, 0, api.OK)
}

// P7.4: the uses that are left; the day is not looked at.
func TestUsesLeft(t *testing.T) {
	k := shed()
	k.Rules = append(k.Rules, api.KitRule{Name: "wash", Kind: api.KitRegulator, Uses: 3})
	l := []api.KitEvent{use(150, "r"), checked(150, "r", "wash", true), use(151, "r"), use(151, "a")}
	for _, test := range []struct {
		l    []api.KitEvent
		rule string
		want int
	}{
		{nil, "service", 2},
		{nil, "wash", 3},
		{l[:1], "service", 1},
		{l[:1], "wash", 2},
		{l[:2], "service", 1},
		{l[:2], "wash", 3},
		{l, "service", 0},
		{l, "wash", 2},
		{append(l, checked(200, "r", "service", true)), "service", 2},
		{append(l, checked(200, "r", "service", false), checked(200, "r", "service", true)), "service", 2},
	} {
		for _, day := range []int{0, 200, -1, 100001} {
			got, e := kit.UsesLeft(k, test.l, due("r", test.rule, day))
			expect(t, "UsesLeft of "+test.rule, got, e, test.want, api.OK)
		}
	}
}

// P7.4: what is wrong with what is asked for, in the order of the errors.
func TestWrongDues(t *testing.T) {
	k := shed()
	k.Rules = append(k.Rules, api.KitRule{Name: "wash", Kind: api.KitRegulator, Uses: 3})
	failed := []api.KitEvent{checked(200, "r", "service", false), checked(200, "a", "test", false), checked(200, "r", "wash", false)}
	for _, test := range []struct {
		l          []api.KitEvent
		d          api.KitDue
		days, uses api.Errno
	}{
		{nil, due("x", "look", -1), api.ErrMissing, api.ErrMissing},
		{nil, due("", "test", 5), api.ErrMissing, api.ErrMissing},
		{nil, due("test", "test", 5), api.ErrMissing, api.ErrMissing},
		{nil, due("a", "look", -1), api.ErrMissing, api.ErrMissing},
		{nil, due("a", "", 5), api.ErrMissing, api.ErrMissing},
		{nil, due("a", "a", 5), api.ErrMissing, api.ErrMissing},
		{failed, due("a", "service", -1), api.ErrUnit, api.ErrUnit},
		{nil, due("r", "test", 5), api.ErrUnit, api.ErrUnit},
		{nil, due("c1", "test", 5), api.ErrUnit, api.ErrUnit},
		{nil, due("r", "service", -1), api.ErrRange, api.OK},
		{nil, due("r", "service", 100001), api.ErrRange, api.OK},
		{failed, due("r", "service", -1), api.ErrRange, api.ErrState},
		{failed, due("r", "service", 200), api.ErrState, api.ErrState},
		{failed, due("r", "service", 5), api.ErrState, api.ErrState},
		{failed, due("a", "test", 200), api.ErrState, api.ErrState},
		{failed, due("r", "wash", 200), api.ErrState, api.ErrState},
		{failed, due("b", "test", 200), api.OK, api.ErrNone},
		{nil, due("a", "test", 5), api.OK, api.ErrNone},
		{nil, due("r", "wash", 200), api.ErrNone, api.OK},
		{nil, due("r", "wash", -1), api.ErrRange, api.OK},
	} {
		n, e := kit.DaysLeft(k, test.l, test.d)
		if e != test.days || e != api.OK && n != 0 {
			t.Errorf("DaysLeft of %+v: %d, error %d, want %d", test.d, n, e, test.days)
		}
		n, e = kit.UsesLeft(k, test.l, test.d)
		if e != test.uses || e != api.OK && n != 0 {
			t.Errorf("UsesLeft of %+v: %d, error %d, want %d", test.d, n, e, test.uses)
		}
	}
}

// P7.4: what is due, first by the day, then by the items, then by the rules.
func TestDue(t *testing.T) {
	k := shed()
	service, a, b := due("r", "service", 465), due("a", "test", 1000), due("b", "test", 1000)
	for _, test := range []struct {
		l    []api.KitEvent
		day  int
		want []api.KitDue
	}{
		{nil, 0, nil},
		{nil, 464, nil},
		{nil, 465, []api.KitDue{service}},
		{nil, 600, []api.KitDue{service}},
		{nil, 999, []api.KitDue{service}},
		{nil, 1000, []api.KitDue{service, a, b}},
		{nil, 100000, []api.KitDue{service, a, b}},
		{[]api.KitEvent{checked(700, "r", "service", true)}, 100000, []api.KitDue{a, b, due("r", "service", 1065)}},
		{[]api.KitEvent{checked(635, "r", "service", true)}, 1000, []api.KitDue{a, b, due("r", "service", 1000)}},
		{[]api.KitEvent{checked(5, "a", "test", true)}, 100000, []api.KitDue{service, b, due("a", "test", 1005)}},
		{[]api.KitEvent{checked(5, "a", "test", false)}, 100000, []api.KitDue{service, b}},
		{[]api.KitEvent{use(200, "r"), use(200, "r")}, 600, []api.KitDue{service}},
		{diary(), 5, nil},
	} {
		got, e := kit.Due(k, test.l, test.day)
		expect(t, "Due on "+flat(test.day), got, e, test.want, api.OK)
	}
	for _, day := range []int{-1, 100001} {
		got, e := kit.Due(k, nil, day)
		refuse(t, "Due", got, e, api.ErrRange)
	}
	// Names do not order, nor do rules of uses stand there; what is good beyond all days is never due.
	k = api.KitSetup{
		Items: []api.KitItem{{Name: "z", Kind: api.KitOther}, {Name: "m", Kind: api.KitOther, Bought: 1}, {Name: "a", Kind: api.KitOther, Bought: 99999}},
		Rules: []api.KitRule{{Name: "z", Kind: api.KitOther, Days: 1}, {Name: "u", Kind: api.KitOther, Uses: 5}, {Name: "m", Kind: api.KitOther, Days: 2}, {Name: "a", Kind: api.KitOther, Days: 1, Uses: 1}, {Name: "c", Kind: api.KitCylinder, Days: 1}},
	}
	got, e := kit.Due(k, nil, 100000)
	expect(t, "Due", got, e, []api.KitDue{due("z", "z", 1), due("z", "a", 1), due("z", "m", 2), due("m", "z", 2), due("m", "a", 2), due("m", "m", 3), due("a", "z", 100000), due("a", "a", 100000)}, api.OK)
}

// P7.4, P7.7: days, uses and what is due, as the definitions tell.
func TestDuesByChance(t *testing.T) {
	someShops(300, 40, func(c chance, m model, _ map[int][]api.KitEvent) {
		day := c.Intn(100)
		got, e := kit.Due(m.k, m.l, day)
		expect(t, "Due of "+flat(m), got, e, m.due(day), api.OK)
		for _, i := range m.k.Items {
			for _, r := range m.k.Rules {
				if r.Kind != i.Kind {
					continue
				}
				on, passed, uses := m.last(i.Name, r.Name)
				wanted := func(none bool) api.Errno {
					switch {
					case !passed:
						return api.ErrState
					case none:
						return api.ErrNone
					}
					return api.OK
				}
				n, e := kit.DaysLeft(m.k, m.l, due(i.Name, r.Name, day))
				if f := wanted(r.Days == 0); e != f || e == api.OK && n != on+r.Days-day {
					t.Errorf("DaysLeft of %+v and %+v: %d, error %d", i, r, n, e)
				}
				n, e = kit.UsesLeft(m.k, m.l, due(i.Name, r.Name, day))
				if f := wanted(r.Uses == 0); e != f || e == api.OK && n != r.Uses-uses {
					t.Errorf("UsesLeft of %+v and %+v: %d, error %d", i, r, n, e)
				}
			}
		}
	})
}

// P7.7: without other reasons an item may be used just if no rule has less than no days left; later days have no fewer reasons
// of days; a check that passes takes away all reasons of its rule.
func TestConsequencesOfDays(t *testing.T) {
	told := 0
	someShops(200, 40, func(c chance, m model, _ map[int][]api.KitEvent) {
		last := 0
		if len(m.l) > 0 {
			last = m.l[len(m.l)-1].Day
		}
		for _, i := range m.k.Items {
			before := []api.KitReason(nil)
			for day := max(last, i.Bought); day < last+80; day += 1 + c.Intn(9) {
				is, reasons, e := kit.Usable(m.k, m.l, at(i.Name, day))
				expect(t, "Usable", nil, e, nil, api.OK)
				ofDays := func(r api.KitReason) bool { return r.Kind == api.ReasonDays }
				if other := slices.DeleteFunc(slices.Clone(reasons), ofDays); len(other) == 0 {
					told++
					if is == anyBelow(t, m, i, day) {
						t.Errorf("%+v on %d: %v, though it is %+v", i, day, is, m)
					}
				}
				for _, r := range before {
					if ofDays(r) && !slices.Contains(reasons, r) {
						t.Errorf("%+v on %d has not the reason %+v any more", i, day, r)
					}
				}
				before = reasons
				for _, r := range m.k.Rules {
					if r.Kind == i.Kind {
						_, reasons, e := kit.Usable(m.k, append(slices.Clone(m.l), checked(day, i.Name, r.Name, true)), at(i.Name, day))
						expect(t, "Usable behind a check", nil, e, nil, api.OK)
						if slices.ContainsFunc(reasons, func(x api.KitReason) bool { return x.Rule == r.Name }) {
							t.Errorf("%+v on %d: %+v behind a check by %s", i, day, reasons, r.Name)
						}
					}
				}
			}
		}
	})
	if told < 500 {
		t.Errorf("there were only %d items without other reasons", told)
	}
}

// anyBelow tells whether DaysLeft of a rule with days is below 0.
func anyBelow(t *testing.T, m model, i api.KitItem, day int) bool {
	t.Helper()
	for _, r := range m.k.Rules {
		if r.Kind == i.Kind && r.Days != 0 {
			n, e := kit.DaysLeft(m.k, m.l, due(i.Name, r.Name, day))
			expect(t, "DaysLeft", nil, e, nil, api.OK)
			if n < 0 {
				return true
			}
		}
	}
	return false
}
