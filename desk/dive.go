package desk

import (
	"slices"

	"shotline/api"
	"shotline/check"
	"shotline/exposure"
)

// dive is a fact, with who made it.
type dive struct {
	api.DeskDive
	by api.DeskPerson
}

func (d dive) addTo(w world) (world, api.Errno) {
	if e := d.check(w); e != api.OK {
		return w, e
	}
	for _, part := range d.parts(w) {
		after, e := part.addTo(w)
		if e != api.OK {
			return w, e
		}
		w = after
	}
	w.Dives = with(w.Dives, d.DeskDive)
	return w, api.OK
}

// check returns why a dive is refused, but for its uses and vents.
func (d dive) check(w world) api.Errno {
	_, isDive := w.dive(d.Name)
	p, isPlan := w.plan(d.Plan)
	_, isPerson := w.person(d.Diver)
	switch {
	case isDive:
		return api.ErrExists
	case !isPlan, !isPerson:
		return api.ErrMissing
	case isForbidden(d.by, d.DeskDive):
		return api.ErrState
	case len(d.Vessels) != len(p.Gases):
		return api.ErrShape
	}
	if e := d.checkVessels(w); e != api.OK {
		return e
	}
	begin, _ := w.span(d.DeskDive)
	endsLater := func(other api.DeskDive) bool {
		_, end := w.span(other)
		return begin < end
	}
	if slices.ContainsFunc(w.divesOf(d.Diver), endsLater) {
		return api.ErrBusy
	}
	return api.OK
}

func (d dive) checkVessels(w world) api.Errno {
	_, e := check.Numbered(d.Vessels, func(number int, vessel string) api.Errno {
		if !w.hasVessel(vessel) {
			return api.ErrMissing
		}
		if slices.Contains(d.Vessels[:number], vessel) {
			return api.ErrDouble
		}
		return api.OK
	})
	return e
}

// parts returns the uses and the vents of a dive by a plan that there is.
func (d dive) parts(w world) []fact {
	var parts []fact
	for number, amount := range w.breathed(d.DeskDive) {
		vessel := d.Vessels[number]
		if w.hasItem(vessel) {
			parts = append(parts, event{api.KitEvent{Kind: api.KitUse, Day: d.Day, Item: vessel}})
		}
		if amount > 0 {
			parts = append(parts, fill{api.MixFill{Kind: api.MixVent, Day: d.Day, From: vessel, Amount: amount}})
		}
	}
	return parts
}

// breathed returns what a dive by a plan that there is breathes of each gas.
func (w world) breathed(d api.DeskDive) []int {
	p, _ := w.plan(d.Plan)
	// The plan and the rules are right.
	amounts, _ := exposure.Consumed(p, w.Rules.Breath)
	return amounts
}
