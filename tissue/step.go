package tissue

import (
	"iter"
	"slices"

	"shotline/api"
)

// firstLevel is the level of the roots with the fineness 0.
const firstLevel = 8

// mark is an instant of a leg: its number, its second, and the pressure there, rounded down and rounded up.
type mark struct {
	number, second int
	pressure       api.Range
}

// state is what compartments hold at a mark.
type state struct {
	mark
	loads []api.TissueLoad
}

// course is a leg that compartments are followed on, with a fineness.
type course struct {
	api.TissueLeg
	table []api.Compartment
	fine  int
}

// partDecays are the decays of a step, of the nitrogen and the helium of a compartment.
type partDecays [2]api.Range

// states yields the states at the marks of a course that begins with some loads.
func (c course) states(l []api.TissueLoad) iter.Seq[state] {
	decaysOf := c.decays()
	return func(yield func(state) bool) {
		at := state{c.mark(0), slices.Clone(l)}
		for j := range c.stepCount() {
			if !yield(at) {
				return
			}
			next := c.mark(j + 1)
			breathed := breathedOf(c.Gas, pressuresOf(at.mark, next))
			at = state{next, behindStep(at.loads, breathed, decaysOf(next.second-at.second))}
		}
		yield(at)
	}
}

// end returns the loads behind a course that begins with some loads.
func (c course) end(l []api.TissueLoad) []api.TissueLoad {
	var behind []api.TissueLoad
	for at := range c.states(l) {
		behind = at.loads
	}
	return behind
}

// stepCount returns how many steps there are: none on a leg of 0 seconds, which has one mark.
func (c course) stepCount() int {
	if c.Seconds == 0 {
		return 0
	}
	return 1 << c.fine
}

func (c course) mark(number int) mark {
	steps := c.stepCount()
	if steps == 0 {
		return mark{number, 0, exactly(c.From)}
	}
	second := number * c.Seconds / steps
	return mark{number, second, divide(c.From*(c.Seconds-second)+c.To*second, c.Seconds)}
}

// decays returns a function that returns the decays of some seconds, for each compartment.
func (c course) decays() func(seconds int) []partDecays {
	roots := rootsTo(firstLevel + 2*c.fine)
	// Steps of a leg last one of two numbers of seconds, so decays of both are kept.
	known := map[int][]partDecays{}
	return func(seconds int) []partDecays {
		if known[seconds] == nil {
			known[seconds] = decaysOf(c.table, seconds, roots)
		}
		return known[seconds]
	}
}

// pressuresOf returns the lesser pressure of two marks, rounded down, and the greater one, rounded up.
func pressuresOf(a, b mark) api.Range {
	return api.Range{Lo: min(a.pressure.Lo, b.pressure.Lo), Hi: max(a.pressure.Hi, b.pressure.Hi)}
}

// decaysOf returns the decays of some seconds for each compartment, with the level of the last root.
func decaysOf(t []api.Compartment, seconds int, roots []api.Range) []partDecays {
	l := make([]partDecays, len(t))
	for i, c := range t {
		l[i] = partDecays{decayOf(seconds, c.Nitrogen, roots), decayOf(seconds, c.Helium, roots)}
	}
	return l
}

// behindStep returns the loads behind a step.
func behindStep(l []api.TissueLoad, breathed [2]api.Range, decays []partDecays) []api.TissueLoad {
	behind := make([]api.TissueLoad, len(l))
	for i, x := range l {
		behind[i] = api.TissueLoad{
			Nitrogen: approach(x.Nitrogen, breathed[0], decays[i][0]),
			Helium:   approach(x.Helium, breathed[1], decays[i][1]),
		}
	}
	return behind
}

// approach returns what a load becomes that approaches what is breathed, with a decay: the lower end goes towards the
// least that is breathed, the upper end towards the most.
func approach(load, breathed, decay api.Range) api.Range {
	a, b := breathed.Lo, breathed.Hi
	var behind api.Range
	if load.Lo >= a {
		behind.Lo = a + share(load.Lo-a, decay.Lo).Lo
	} else {
		behind.Lo = a - share(a-load.Lo, decay.Hi).Hi
	}
	if load.Hi >= b {
		behind.Hi = b + share(load.Hi-b, decay.Hi).Hi
	} else {
		behind.Hi = b - share(b-load.Hi, decay.Lo).Lo
	}
	return behind
}
