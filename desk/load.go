package desk

import (
	"slices"

	"shotline/api"
	"shotline/tissue"
)

// fineness is that with which dives are followed.
const fineness = 2

// LoadsOf returns the loads of a diver behind all dives.
func LoadsOf(h api.DiveDesk, log []api.DeskEntry, diver string) ([]api.TissueLoad, api.Errno) {
	k, _, e := keep(h, log)
	if e != api.OK {
		return nil, e
	}
	return k.loadsOf(diver)
}

func (w world) loadsOf(diver string) ([]api.TissueLoad, api.Errno) {
	if _, ok := w.person(diver); !ok {
		return nil, api.ErrMissing
	}
	dives := w.divesOf(diver)
	if len(dives) == 0 {
		return nil, api.ErrNone
	}
	var loads []api.TissueLoad
	for number, d := range dives {
		ahead := w.saturated(d)
		if number > 0 {
			ahead = w.rested(loads, dives[number-1], d)
		}
		behind, e := w.followed(ahead, d)
		if e != api.OK {
			return nil, e
		}
		loads = behind
	}
	return loads, api.OK
}

// saturated returns the loads ahead of the first dive of a diver.
func (w world) saturated(d api.DeskDive) []api.TissueLoad {
	p, _ := w.plan(d.Plan)
	// The table and the plan are right.
	loads, _ := tissue.Saturated(w.Table, api.Gas{Oxygen: api.AirOxygen}, p.Surface)
	return loads
}

// rested returns the loads ahead of a dive, from those behind the dive before.
func (w world) rested(loads []api.TissueLoad, before, d api.DeskDive) []api.TissueLoad {
	p, _ := w.plan(d.Plan)
	_, end := w.span(before)
	begin, _ := w.span(d)
	// Dives of one diver do not begin before the end of those ahead of them.
	rested, _ := tissue.Rested(w.Table, loads, p.Surface, min(begin-end, api.MaxSecond))
	return rested
}

// followed returns the loads behind a dive.
func (w world) followed(loads []api.TissueLoad, d api.DeskDive) ([]api.TissueLoad, api.Errno) {
	p, _ := w.plan(d.Plan)
	legs, e := tissue.LegsOf(p)
	if e != api.OK {
		return nil, e
	}
	behind, e := tissue.Followed(w.Table, loads, legs, fineness)
	if e != api.OK || len(behind) == 0 {
		return loads, e
	}
	return behind[len(behind)-1], api.OK
}

// sameLoads tells whether a diver has the same loads, or for the same reason none, in two worlds.
func sameLoads(diver string, v, w world) bool {
	before, e := v.loadsOf(diver)
	behind, f := w.loadsOf(diver)
	return e == f && slices.Equal(before, behind)
}
