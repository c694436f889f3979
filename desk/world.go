package desk

import (
	"slices"

	"shotline/api"
	"shotline/mix"
	"shotline/profile"
)

// world is a right desk with what facts have added to it, one after the other. Its lists are never changed, so what one
// world has may be in another one, too.
type world struct {
	api.DiveDesk
	api.DeskState
}

// with returns a list with one more element, in memory of its own.
func with[T any](list []T, x T) []T {
	return append(slices.Clip(list), x)
}

// find returns the first element of a list for which a condition holds, and whether there is one.
func find[T any](list []T, is func(T) bool) (T, bool) {
	for _, x := range list {
		if is(x) {
			return x, true
		}
	}
	var none T
	return none, false
}

func (w world) person(name string) (api.DeskPerson, bool) {
	return find(w.People, func(p api.DeskPerson) bool { return p.Name == name })
}

func (w world) plan(name string) (api.DivePlan, bool) {
	return find(w.Plans, func(p api.DivePlan) bool { return p.Name == name })
}

func (w world) dive(name string) (api.DeskDive, bool) {
	return find(w.Dives, func(d api.DeskDive) bool { return d.Name == name })
}

func (w world) record(dive string) (api.DeskRecord, bool) {
	return find(w.Records, func(r api.DeskRecord) bool { return r.Dive == dive })
}

func (w world) isRecorded(dive string) bool {
	_, is := w.record(dive)
	return is
}

func (w world) hasItem(name string) bool {
	return slices.ContainsFunc(w.Kit.Items, func(i api.KitItem) bool { return i.Name == name })
}

func (w world) hasVessel(name string) bool {
	return slices.ContainsFunc(w.Vessels, func(v api.MixVessel) bool { return v.Name == name })
}

// planned returns a dive and its plan, or the error of the dive's name.
func (w world) planned(name string) (api.DeskDive, api.DivePlan, api.Errno) {
	d, ok := w.dive(name)
	if !ok {
		return api.DeskDive{}, api.DivePlan{}, api.ErrMissing
	}
	p, _ := w.plan(d.Plan)
	return d, p, api.OK
}

// divesOf returns the dives of a diver, in their order.
func (w world) divesOf(diver string) []api.DeskDive {
	return slices.DeleteFunc(slices.Clone(w.Dives), func(d api.DeskDive) bool { return d.Diver != diver })
}

// span returns when a dive begins and ends, in seconds from the begin of the day 0 on.
func (w world) span(d api.DeskDive) (begin, end int) {
	p, _ := w.plan(d.Plan)
	seconds, _ := profile.PlanSeconds(p)
	begin = d.Day*api.SecondsADay + d.Second
	return begin, begin + seconds
}

// signatures returns how many people have signed a dive.
func (w world) signatures(dive string) int {
	count := 0
	for _, s := range w.Signs {
		if s.Dive == dive {
			count++
		}
	}
	return count
}

// contents returns what is in each vessel.
func (w world) contents() []api.MixContent {
	// The vessels and the fills of a world are right.
	contents, _ := mix.Contents(w.Vessels, w.Fills)
	return contents
}

// held returns what is in a vessel, and whether there is one of this name.
func (w world) held(vessel string) (api.MixContent, bool) {
	number := slices.IndexFunc(w.Vessels, func(v api.MixVessel) bool { return v.Name == vessel })
	if number < 0 {
		return api.MixContent{}, false
	}
	return w.contents()[number], true
}
