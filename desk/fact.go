package desk

import (
	"slices"

	"shotline/api"
	"shotline/kit"
	"shotline/mix"
)

// fact is what an entry says, unless it is a fix.
type fact interface {
	// addTo returns a world with the fact in it; or why this is refused, beside a world that is of no use.
	addTo(w world) (world, api.Errno)
}

// The facts but for dives, with who made them where this matters.
type (
	fill   struct{ api.MixFill }
	event  struct{ api.KitEvent }
	plan   struct{ api.DivePlan }
	record struct {
		api.DeskRecord
		by api.DeskPerson
	}
	sign struct{ api.DeskSign }
)

func (f fill) addTo(w world) (world, api.Errno) {
	var e api.Errno
	w.Fills, e = mix.AddFill(w.Vessels, w.Fills, f.MixFill)
	return w, e
}

func (v event) addTo(w world) (world, api.Errno) {
	var e api.Errno
	w.Events, e = kit.AddEvent(w.Kit, w.Events, v.KitEvent)
	return w, e
}

func (p plan) addTo(w world) (world, api.Errno) {
	if _, ok := w.plan(p.Name); ok {
		return w, api.ErrExists
	}
	w.Plans = with(w.Plans, p.DivePlan)
	return w, api.OK
}

func (r record) addTo(w world) (world, api.Errno) {
	d, ok := w.dive(r.Dive)
	switch {
	case !ok:
		return w, api.ErrMissing
	case isForbidden(r.by, d):
		return w, api.ErrState
	case w.isRecorded(r.Dive):
		return w, api.ErrDouble
	}
	w.Records = with(w.Records, r.DeskRecord)
	return w, api.OK
}

func (s sign) addTo(w world) (world, api.Errno) {
	d, ok := w.dive(s.Dive)
	switch {
	case !ok:
		return w, api.ErrMissing
	case d.Diver == s.By:
		return w, api.ErrClash
	case slices.Contains(w.Signs, s.DeskSign):
		return w, api.ErrDouble
	}
	w.Signs = with(w.Signs, s.DeskSign)
	return w, api.OK
}

// isForbidden tells whether a dive is not one of which a person may make an entry: divers may do so of their own dives only.
func isForbidden(by api.DeskPerson, d api.DeskDive) bool {
	return by.Role == api.RoleDiver && by.Name != d.Diver
}
