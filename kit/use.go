package kit

import (
	"slices"

	"shotline/api"
)

// Usable tells whether an item may be used on a day, and the reasons against it.
func Usable(k api.KitSetup, l []api.KitEvent, c api.KitCase) (bool, []api.KitReason, api.Errno) {
	s, x, e := thingBehind(k, l, c.Item)
	if e == api.OK {
		e = checkDay(c.Day)
	}
	if e != api.OK {
		return false, nil, e
	}
	if c.Day < s.day {
		return false, nil, api.ErrEarly
	}
	reasons := s.reasons(x, c.Day)
	return len(reasons) == 0, reasons, api.OK
}

// Lost returns the names of the items that may be used ahead of an event, on its day, and may not behind it.
func Lost(k api.KitSetup, l []api.KitEvent, x api.KitEvent) ([]string, api.Errno) {
	s, e := aheadOf(k, l, x)
	if e != api.OK {
		return nil, e
	}
	usable := func(y *thing) bool { return s.mayBeUsed(y, x.Day) }
	before := s.names(usable)
	s.happen(x)
	after := s.names(usable)
	return find(before, func(name string) bool { return !slices.Contains(after, name) }), api.OK
}

func (s *shop) mayBeUsed(x *thing, day int) bool {
	return len(s.reasons(x, day)) == 0
}

// reasons returns the reasons against a thing on a day.
func (s *shop) reasons(x *thing, day int) []api.KitReason {
	var reasons []api.KitReason
	for _, r := range s.rulesOf(x) {
		if kind, fails := x.checks[r.Name].fails(r, day); fails {
			reasons = append(reasons, api.KitReason{Kind: kind, Rule: r.Name})
		}
	}
	for _, b := range s.badIn(x) {
		reasons = append(reasons, api.KitReason{Kind: api.ReasonAir, Batch: b})
	}
	return reasons
}

// fails tells whether the last check by a rule fails its item on a day, and the reason.
func (c lastCheck) fails(r api.KitRule, day int) (int, bool) {
	switch {
	case !c.passed:
		return api.ReasonFailed, true
	case r.Days != 0 && day > c.lastGood(r):
		return api.ReasonDays, true
	case r.Uses != 0 && c.uses >= r.Uses:
		return api.ReasonUses, true
	}
	return 0, false
}

// lastGood returns the last day on which a check by a rule with days is good.
func (c lastCheck) lastGood(r api.KitRule) int {
	return c.day + r.Days
}

// use counts a use of a thing behind each of its last checks.
func (x *thing) use() {
	for rule, c := range x.checks {
		c.uses++
		x.checks[rule] = c
	}
}
