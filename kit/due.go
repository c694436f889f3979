package kit

import (
	"cmp"
	"slices"

	"shotline/api"
)

// DaysLeft returns for how many days behind a day the last check of an item by a rule is good.
func DaysLeft(k api.KitSetup, l []api.KitEvent, d api.KitDue) (int, api.Errno) {
	c, r, e := lastCheckBehind(k, l, d)
	if e == api.OK {
		e = checkDay(d.Day)
	}
	switch {
	case e != api.OK:
		return 0, e
	case !c.passed:
		return 0, api.ErrState
	case r.Days == 0:
		return 0, api.ErrNone
	}
	return c.lastGood(r) - d.Day, api.OK
}

// UsesLeft returns for how many uses more the last check of an item by a rule is good.
func UsesLeft(k api.KitSetup, l []api.KitEvent, d api.KitDue) (int, api.Errno) {
	c, r, e := lastCheckBehind(k, l, d)
	switch {
	case e != api.OK:
		return 0, e
	case !c.passed:
		return 0, api.ErrState
	case r.Uses == 0:
		return 0, api.ErrNone
	}
	return r.Uses - c.uses, api.OK
}

// Due returns the checks whose last good day is at most a day, ascending by it.
func Due(k api.KitSetup, l []api.KitEvent, day int) ([]api.KitDue, api.Errno) {
	s, _, e := behind(k, l)
	if e == api.OK {
		e = checkDay(day)
	}
	if e != api.OK {
		return nil, e
	}
	due := find(s.lastGoodDays(), func(d api.KitDue) bool { return d.Day <= day })
	slices.SortStableFunc(due, func(a, b api.KitDue) int { return cmp.Compare(a.Day, b.Day) })
	return due, api.OK
}

// lastCheckBehind returns the last check of an item by a rule behind events, and the rule.
func lastCheckBehind(k api.KitSetup, l []api.KitEvent, d api.KitDue) (lastCheck, api.KitRule, api.Errno) {
	s, x, e := thingBehind(k, l, d.Item)
	if e != api.OK {
		return lastCheck{}, api.KitRule{}, e
	}
	r, e := s.rule(d.Rule, x)
	return x.checks[r.Name], r, e
}

// lastGoodDays returns the last good days of all last checks that passed, by rules with days.
func (s *shop) lastGoodDays() []api.KitDue {
	var days []api.KitDue
	for _, x := range s.things {
		for _, r := range s.rulesOf(x) {
			if c := x.checks[r.Name]; c.passed && r.Days != 0 {
				days = append(days, api.KitDue{Item: x.Name, Rule: r.Name, Day: c.lastGood(r)})
			}
		}
	}
	return days
}
