package desk

import (
	"shotline/api"
	"shotline/exposure"
	"shotline/profile"
)

// Deviation returns how far the recorded profile of a dive is from its plan.
func Deviation(h api.DiveDesk, log []api.DeskEntry, dive string) (api.Range, api.Errno) {
	k, _, e := keep(h, log)
	if e != api.OK {
		return api.Range{}, e
	}
	_, p, e := k.planned(dive)
	if e != api.OK {
		return api.Range{}, e
	}
	r, ok := k.record(dive)
	if !ok {
		return api.Range{}, api.ErrNone
	}
	points, e := profile.PointsOf(p)
	if e != api.OK {
		return api.Range{}, e
	}
	return profile.Distance(points, r.Points)
}

// Drill returns what is needed at a second of a dive, and how much of it there was in the vessel ahead of the dive.
func Drill(h api.DiveDesk, log []api.DeskEntry, at api.DeskMoment) (api.DeskNeed, api.Errno) {
	k, _, e := keep(h, log)
	if e != api.OK {
		return api.DeskNeed{}, e
	}
	d, p, e := k.planned(at.Dive)
	if e != api.OK {
		return api.DeskNeed{}, e
	}
	number, need, e := exposure.NeedAt(p, k.Rules, at.Second)
	if e != api.OK {
		return api.DeskNeed{}, e
	}
	there, _ := k.aheadOf(d.Name).held(d.Vessels[number])
	return api.DeskNeed{Gas: number, Need: need, There: sumOf(there)}, api.OK
}

// aheadOf returns the world ahead of a dive.
func (k keeper) aheadOf(name string) *world {
	c, _ := find(k.facts, func(c counted) bool {
		d, is := c.fact.(dive)
		return is && d.Name == name
	})
	return c.before
}

// Unsigned returns the names of the dives that nobody has signed.
func Unsigned(h api.DiveDesk, log []api.DeskEntry) ([]string, api.Errno) {
	k, _, e := keep(h, log)
	if e != api.OK {
		return nil, e
	}
	var names []string
	for _, d := range k.Dives {
		if k.signatures(d.Name) == 0 {
			names = append(names, d.Name)
		}
	}
	return names, api.OK
}
