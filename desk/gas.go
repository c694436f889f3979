package desk

import (
	"shotline/api"
	"shotline/mix"
)

// Contents returns what is in each vessel.
func Contents(h api.DiveDesk, log []api.DeskEntry) ([]api.MixContent, api.Errno) {
	k, _, e := keep(h, log)
	if e != api.OK {
		return nil, e
	}
	return k.contents(), api.OK
}

// Booked returns what came in, was vented by fills, was breathed, and is held.
func Booked(h api.DiveDesk, log []api.DeskEntry) (api.DeskGas, api.Errno) {
	k, _, e := keep(h, log)
	if e != api.OK {
		return api.DeskGas{}, e
	}
	sums, _ := mix.Sums(k.Vessels, k.Fills)
	breathed := k.breathedByAll()
	return api.DeskGas{In: sums.In, Vented: less(sums.Vented, breathed), Breathed: breathed, Held: k.all()}, api.OK
}

// Moves returns what a fact moves.
func Moves(h api.DiveDesk, log []api.DeskEntry, number int) (api.MixContent, api.Errno) {
	k, _, e := keep(h, log)
	if e != api.OK {
		return api.MixContent{}, e
	}
	if !k.hasEntry(number) {
		return api.MixContent{}, api.ErrMissing
	}
	place := k.placeOf(number)
	if place < 0 {
		return api.MixContent{}, api.ErrKind
	}
	return k.moved(place), api.OK
}

// Breathed returns what is breathed of each gas of the plan of a dive.
func Breathed(h api.DiveDesk, log []api.DeskEntry, dive string) ([]int, api.Errno) {
	k, _, e := keep(h, log)
	if e != api.OK {
		return nil, e
	}
	return k.breathedOn(dive)
}

// breathedOn returns what is breathed of each gas of the plan of a dive of a name.
func (w world) breathedOn(name string) ([]int, api.Errno) {
	d, _, e := w.planned(name)
	if e != api.OK {
		return nil, e
	}
	return w.breathed(d), api.OK
}

// breathedByAll returns what all dives take out.
func (k keeper) breathedByAll() api.MixContent {
	var sum api.MixContent
	for place, c := range k.facts {
		if _, ok := c.fact.(dive); ok {
			sum = plus(sum, k.moved(place))
		}
	}
	return sum
}

// moved returns what the fact in a place moves.
func (k keeper) moved(place int) api.MixContent {
	ahead, behind := k.facts[place].before, k.behind(place)
	switch x := k.facts[place].fact.(type) {
	case fill:
		if x.Kind == api.MixIn {
			return less(behind.all(), ahead.all())
		}
		had, _ := ahead.held(x.From)
		has, _ := behind.held(x.From)
		return less(had, has)
	case dive:
		return less(ahead.all(), behind.all())
	}
	return api.MixContent{}
}

// all returns what is in all vessels together.
func (w world) all() api.MixContent {
	var sum api.MixContent
	for _, c := range w.contents() {
		sum = plus(sum, c)
	}
	return sum
}

// plus returns two contents together.
func plus(c, d api.MixContent) api.MixContent {
	return api.MixContent{Oxygen: c.Oxygen + d.Oxygen, Helium: c.Helium + d.Helium, Nitrogen: c.Nitrogen + d.Nitrogen}
}

// less returns what a content has more than another one.
func less(c, d api.MixContent) api.MixContent {
	return api.MixContent{Oxygen: c.Oxygen - d.Oxygen, Helium: c.Helium - d.Helium, Nitrogen: c.Nitrogen - d.Nitrogen}
}

// sumOf returns all gases of a content together.
func sumOf(c api.MixContent) int {
	return c.Oxygen + c.Helium + c.Nitrogen
}
