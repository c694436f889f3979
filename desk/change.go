package desk

import "shotline/api"

// Changed returns what an entry would change.
func Changed(h api.DiveDesk, log []api.DeskEntry, x api.DeskEntry) (api.DeskChange, api.Errno) {
	before, _, e := keep(h, log)
	if e != api.OK {
		return api.DeskChange{}, e
	}
	behind, e := before.accept(x)
	if e != api.OK {
		return api.DeskChange{}, e
	}
	var c api.DeskChange
	for place, f := range before.facts {
		// A fact keeps its place, whatever is fixed.
		if before.moved(place) != behind.moved(place) {
			c.Facts = append(c.Facts, f.number)
		}
	}
	held, holds := before.contents(), behind.contents()
	for number, v := range before.Vessels {
		if held[number] != holds[number] {
			c.Vessels = append(c.Vessels, v.Name)
		}
	}
	for _, p := range before.People {
		if !sameLoads(p.Name, before.world, behind.world) {
			c.Divers = append(c.Divers, p.Name)
		}
	}
	return c, api.OK
}
