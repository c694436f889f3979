package ascent_test

import (
	"fmt"
	"slices"
	"testing"

	"shotline/api"
	"shotline/ascent"
	"shotline/tissue"
)

// P4.3: the way straight up.
func TestDirect(t *testing.T) {
	coarse := func(load int) api.AscentTask {
		x := sample(load)
		x.Rules.Fine = 0
		return x
	}
	low := sample(2000000)
	low.Rules.Low = 999
	lessAnchor := sample(2000000)
	lessAnchor.Rules.Low, lessAnchor.Rules.Anchor = 0, 3000
	for _, test := range []struct {
		x    api.AscentTask
		want int
	}{
		{sample(2000000), api.AnswerYes},
		{coarse(2000000), api.AnswerYes},
		{coarse(2000001), api.AnswerMaybe},
		{sample(2000001), api.AnswerYes},
		{sample(2400000), api.AnswerNo},
		{low, api.AnswerYes},
		{lessAnchor, api.AnswerNo}, // the factor 666 at the depth 1000 allows 1666 at the surface, and more than that is left
	} {
		k, e := ascent.Direct(test.x)
		expect(t, flat(test.x), k, e, test.want, api.OK)
	}
	x := sample(740230)
	x.Gases = []api.AscentGas{{Gas: air, Deepest: 999}, {Gas: oxygen, Deepest: 0}}
	k, e := ascent.Direct(x)
	refuse(t, "no gas", k, e, api.ErrGap)
	x.Gases[0].Deepest = 1000
	k, e = ascent.Direct(x)
	expect(t, "a gas at its greatest depth", k, e, api.AnswerYes, api.OK)
}

// P4.3: at the surface the loads are asked for.
func TestDirectAtSurface(t *testing.T) {
	x := sample(0)
	x.Depth, x.Gases[0].Deepest = 0, 0
	x.Rules.Low, x.Rules.High = 300, 800 // the limit is 1800
	for l, want := range map[api.Range]int{
		exactly(1800000):           api.AnswerYes,
		{Lo: 0, Hi: 1800000}:       api.AnswerYes,
		{Lo: 0, Hi: 1800001}:       api.AnswerMaybe,
		{Lo: 1800000, Hi: 1 << 24}: api.AnswerMaybe,
		exactly(1800001):           api.AnswerNo,
	} {
		x.Loads[0].Nitrogen = l
		k, e := ascent.Direct(x)
		expect(t, flat(l), k, e, want, api.OK)
	}
}

// P4.3: Direct and NoStopSeconds, by the definitions.
func TestDirectByDefinition(t *testing.T) {
	count := map[string]int{}
	someTasks(1500, func(c chance, x api.AscentTask) {
		if c.Intn(2) == 0 { // fresh, and deeper
			x.Loads, _ = tissue.Saturated(x.Table, air, x.Surface)
			x.Depth += c.Intn(4000)
		}
		want, wanted := straight(x)
		k, e := ascent.Direct(x)
		expect(t, flat(x), k, e, want, wanted)
		want, wanted = noStop(x)
		n, e := ascent.NoStopSeconds(x)
		expect(t, flat(x), n, e, want, wanted)
		switch {
		case e != api.OK:
			count[fmt.Sprintf("error %d", e)]++
		case n == 0:
			count["at once"]++
		case n == 60*x.Rules.Step:
			count["always"]++
		default:
			count["some time"]++
		}
	})
	for _, kind := range []string{"at once", "some time", "always", fmt.Sprintf("error %d", api.ErrNone), fmt.Sprintf("error %d", api.ErrGap)} {
		if count[kind] < 20 {
			t.Errorf("too few tasks of a kind: %v", count)
		}
	}
}

// P4.3: how long one may stay.
func TestNoStopSeconds(t *testing.T) {
	n, e := ascent.NoStopSeconds(sample(740230))
	expect(t, "as long as asked for", n, e, 36000, api.OK)
	n, e = ascent.NoStopSeconds(sample(2400000))
	refuse(t, "with stops", n, e, api.ErrNone)
	x := sample(740230)
	x.Gases[0].Deepest = 999
	n, e = ascent.NoStopSeconds(x)
	refuse(t, "no gas", n, e, api.ErrGap)
	x = sample(2100000) // the way up is kept, and each stay leaves less
	x.Rules.Fine = 6
	n, e = ascent.NoStopSeconds(x)
	expect(t, "ever less", n, e, 36000, api.OK)

	x = sample(740230) // at 2000 air loads up to 2320230, of which little more than 2000000 may be taken straight up
	x.Depth, x.Rules.Speed, x.Rules.Step, x.Rules.Fine = 2000, 6000, 60, 6
	stays := 0
	for y := behind(x, stay(x)); stays < 60; y = behind(y, stay(y)) {
		if k, _ := straight(y); k != api.AnswerYes {
			break
		}
		stays++
	}
	if stays < 5 || stays > 50 {
		t.Errorf("%d stays", stays)
	}
	n, e = ascent.NoStopSeconds(x)
	expect(t, "some time", n, e, 60*stays, api.OK)
}

// P4.3: a stay counts only if it is proved.
func TestNoStopSecondsOfUnprovedStays(t *testing.T) {
	x := breaking(968000)
	x.Rules.Speed, x.Rules.Step, x.Rules.Fine, x.Depth = 6000, 3600, 0, 1
	next := behind(x, stay(x))
	for _, y := range []api.AscentTask{x, next} {
		if k, _ := straight(y); k != api.AnswerYes || proof(x, stay(x)) >= 0 {
			t.Fatalf("no way up, or a stay that is proved: %+v", y)
		}
	}
	n, e := ascent.NoStopSeconds(x)
	expect(t, "an unproved stay", n, e, 0, api.OK)
}

// breaking is a task whose stays load helium faster than nitrogen leaves: at some time they are not kept any more.
func breaking(load int) api.AscentTask {
	return api.AscentTask{
		Table:   []api.Compartment{{Nitrogen: 100000, Helium: 50000, Slope: 1000}},
		Loads:   nitrogen(load),
		Surface: 1000, Depth: 1000,
		Gases: []api.AscentGas{{Gas: helium, Deepest: 1000}},
		Rules: api.AscentRules{Speed: 30, Grid: 3000, Step: 60, Low: 1000, High: 1000, Anchor: 1000, Fine: 3},
	}
}

// P4.3, P4.9: the schedule of the examples.
func TestGenerate(t *testing.T) {
	s, e := ascent.Generate(sample(2400000))
	expect(t, "the example", s, e, sampleSchedule(), api.OK)
	x := sample(100000000)
	x.Depth = 0
	s, e = ascent.Generate(x)
	expect(t, "the surface", s, e, api.AscentSchedule{}, api.OK)
	x = sample(740230)
	x.Depth, x.Rules.Grid = 1001, 300
	s, e = ascent.Generate(x)
	expect(t, "the first rise ends on the grid", s, e, api.AscentSchedule{
		Legs: []api.DiveLeg{{Seconds: 13, Depth: 900}, {Seconds: 36, Depth: 600}, {Seconds: 36, Depth: 300}, {Seconds: 36}}, Fines: make([]int, 4)}, api.OK)
	x.Gases = []api.AscentGas{{Gas: air, Deepest: 1001}, {Gas: nx50, Deepest: 899}, {Gas: oxygen, Deepest: 300}}
	s, e = ascent.Generate(x)
	expect(t, "gases", s, e, api.AscentSchedule{
		Legs: []api.DiveLeg{{Seconds: 13, Depth: 900}, {Seconds: 36, Depth: 600}, {Seconds: 36, Depth: 300, Gas: 1}, {Seconds: 36, Gas: 2}}, Fines: make([]int, 4)}, api.OK)
	x = sample(2000001)
	x.Rules.Grid = 1000
	s, e = ascent.Generate(x)
	expect(t, "a finer proof", s, e, api.AscentSchedule{Legs: []api.DiveLeg{{Seconds: 120}}, Fines: []int{1}}, api.OK)
	x.Rules.Fine = 0
	s, e = ascent.Generate(x)
	expect(t, "no finer proof", s, e, api.AscentSchedule{Legs: []api.DiveLeg{{Seconds: 600, Depth: 1000}, {Seconds: 120}}, Fines: []int{0, 0}}, api.OK)
}

// P4.3: errors of schedules.
func TestNoSchedule(t *testing.T) {
	x := sample(740230)
	x.Gases[0].Deepest = 999
	s, e := ascent.Generate(x)
	refuse(t, "no gas", s, e, api.ErrGap)
	s, e = ascent.Generate(sample(3500001)) // the limit at the depth is 3500
	refuse(t, "too much already", s, e, api.ErrBreak)
	// What is breathed at 1000 is more than the limit at 0 and less than that at 1000: a stay changes nothing.
	x = sample(740230 * 2)
	x.Table[0] = api.Compartment{Nitrogen: 1, Helium: 1, Slope: 1000}
	x.Rules.Grid = 1000
	s, e = ascent.Generate(x)
	refuse(t, "a stay for ever", s, e, api.ErrNone)
	x = sample(0)
	x.Depth, x.Rules.Grid, x.Rules.Speed = 400, 1, 6000
	s, e = ascent.Generate(x)
	if len(s.Legs) != 400 || e != api.OK {
		t.Errorf("400 legs: %d, error %d", len(s.Legs), e)
	}
	x.Depth = 401
	s, e = ascent.Generate(x)
	refuse(t, "401 legs", s, e, api.ErrLarge)
}

// P4.3: 60 stays in a row are as many as may be.
func TestSixtyStays(t *testing.T) {
	x := sample(0)
	x.Table[0].Nitrogen, x.Rules.Grid, x.Rules.Step, x.Rules.Fine = 20000, 1000, 60, 5
	lo, hi := 0, 3500000
	for lo+1 < hi {
		x.Loads = nitrogen((lo + hi) / 2)
		if _, e := ascent.Generate(x); e == api.OK {
			lo = (lo + hi) / 2
		} else {
			hi = (lo + hi) / 2
		}
	}
	x.Loads = nitrogen(lo)
	s, e := ascent.Generate(x)
	stops, _ := ascent.StopsOf(x, s)
	expect(t, "60 stays", stops, e, []api.AscentStop{{Depth: 1000, Seconds: 3600}}, api.OK)
	x.Loads = nitrogen(hi)
	s, e = ascent.Generate(x)
	refuse(t, "61 stays", s, e, api.ErrNone)
}

// P4.3: a stay behind 60 of them is ErrNone, even if it is not proved.
func TestUnprovedStay(t *testing.T) {
	// stays returns how many stays in a row are proved, up to 61.
	stays := func(load int) int {
		x := breaking(load)
		for n := range 61 {
			if proof(x, stay(x)) < 0 {
				return n
			}
			x = behind(x, stay(x))
		}
		return 61
	}
	lo, hi := 1000000, 2000000 // more than the limit at the surface, up to that at the depth
	for stays(lo) != 60 && lo+1 < hi {
		if n := (lo + hi) / 2; stays(n) >= 60 {
			lo = n
		} else {
			hi = n
		}
	}
	for load, want := range map[int]api.Errno{lo: api.ErrNone, lo + 20000: api.ErrBreak} {
		n := stays(load)
		if n > 60 || n == 60 != (want == api.ErrNone) || n < 2 {
			t.Errorf("the load %d: %d stays are proved", load, n)
		}
		s, e := ascent.Generate(breaking(load))
		refuse(t, flat(load), s, e, want)
	}
}

// P4.3: behind 400 legs the schedule is too large, whatever would come next.
func TestFourHundredLegs(t *testing.T) {
	legs := map[int]api.Errno{}
	for rises := 330; rises < 350; rises++ {
		// Ever on the grid of 1 cm, up to a depth where there is too much nitrogen, which hardly gets less.
		x := sample(1000*(1600-rises) - 700)
		x.Table[0] = api.Compartment{Nitrogen: 100000, Helium: 100000, Slope: 1000}
		x.Depth, x.Rules.Grid, x.Rules.Speed, x.Rules.Step, x.Rules.Fine = 600, 1, 6000, 1, 6
		x.Gases[0].Gas = api.Gas{}
		begun, want := scheduleOf(x)
		legs[len(begun.Legs)] = want
		s, e := ascent.Generate(x)
		refuse(t, flat(rises), s, e, want)
	}
	if legs[399] != api.ErrNone || legs[400] != api.ErrLarge {
		t.Errorf("errors by the number of legs: %v", legs)
	}
}

// P4.3: schedules, by the definition.
func TestGenerateByDefinition(t *testing.T) {
	count := map[string]int{}
	someTasks(1500, func(_ chance, x api.AscentTask) {
		want, wanted := scheduleOf(x)
		s, e := ascent.Generate(x)
		if wanted != api.OK {
			refuse(t, flat(x), s, e, wanted)
			count[fmt.Sprintf("error %d", e)]++
			return
		}
		expect(t, flat(x), s, e, want, api.OK)
		stops, _ := ascent.StopsOf(x, s)
		count[fmt.Sprintf("%d stops", min(len(stops), 2))]++
		if len(s.Fines) > 0 && slices.Max(s.Fines) > 0 {
			count["finer"]++
		}
	})
	for _, kind := range []string{"0 stops", "1 stops", "2 stops", "finer", fmt.Sprintf("error %d", api.ErrGap), fmt.Sprintf("error %d", api.ErrNone), fmt.Sprintf("error %d", api.ErrBreak)} {
		if count[kind] < 20 {
			t.Errorf("too few tasks of the kind %s: %v", kind, count)
		}
	}
}

// P4.9: generated schedules are accepted; stops are at the first depth or on the grid; no stay is longer than need be.
func TestGenerated(t *testing.T) {
	someSchedules(t, 1500, func(x api.AscentTask, s api.AscentSchedule) {
		want, _ := ascent.SecondsOf(s)
		n, e := ascent.CheckSchedule(x, s)
		expect(t, flat(x), n, e, want, api.OK)
		stops, e := ascent.StopsOf(x, s)
		for _, stop := range stops {
			if stop.Depth != x.Depth && stop.Depth%x.Rules.Grid != 0 || e != api.OK {
				t.Errorf("%+v: a stop %+v, error %d", x, stop, e)
			}
		}
		at, _ := ascent.Following(x, s)
		at = append([]api.AscentTask{x}, at...)
		for i, leg := range s.Legs {
			lastStay := leg.Depth == at[i].Depth && s.Legs[i+1].Depth != leg.Depth
			if !lastStay {
				continue
			}
			up := rise(at[i], stopAbove(x.Rules, leg.Depth))
			for fine := range x.Rules.Fine + 1 {
				if _, e := ascent.CheckSchedule(at[i], api.AscentSchedule{Legs: []api.DiveLeg{up}, Fines: []int{fine}}); e != api.ErrProof {
					t.Errorf("%+v: without the leg %d the rise has the error %d", x, i, e)
				}
			}
		}
	})
}

// P4.8: at no instant of a leg that is accepted are the limits surely broken.
func TestEveryInstant(t *testing.T) {
	instants := 0
	someSchedules(t, 400, func(x api.AscentTask, s api.AscentSchedule) {
		at, _ := ascent.Following(x, s)
		at = append([]api.AscentTask{x}, at...)
		for i, leg := range s.Legs {
			here := at[i]
			factor, _ := ascent.FactorAt(x.Rules, here.Depth)
			whole := tissueTask(here, leg).Leg
			for second := 1; second <= leg.Seconds; second += 1 + leg.Seconds/16 {
				risen := (whole.From - whole.To) * second
				if risen%leg.Seconds != 0 {
					continue // the pressure is not whole
				}
				part := whole
				part.Seconds, part.To = second, whole.From-risen/leg.Seconds
				instants++
				l, _ := tissue.Loaded(x.Table, here.Loads, part, x.Rules.Fine)
				if k, e := tissue.KeptAt(x.Table, l, [2]int{part.To, factor}); k == api.AnswerNo || e != api.OK {
					t.Errorf("%+v: leg %d, second %d: limits are broken, error %d", x, i, second, e)
				}
			}
		}
	})
	if instants < 1000 {
		t.Errorf("%d instants", instants)
	}
}

// P4.10: if the way straight up is kept, it is accepted as a schedule.
func TestDirectIsAccepted(t *testing.T) {
	found := 0
	someTasks(1500, func(_ chance, x api.AscentTask) {
		k, _ := ascent.Direct(x)
		if k != api.AnswerYes || x.Depth == 0 {
			return
		}
		found++
		up := rise(x, 0)
		for fine := range x.Rules.Fine + 1 {
			if n, e := ascent.CheckSchedule(x, api.AscentSchedule{Legs: []api.DiveLeg{up}, Fines: []int{fine}}); e == api.OK {
				expect(t, flat(x), n, e, up.Seconds, api.OK)
				return
			}
		}
		t.Errorf("%+v: the way straight up is not accepted", x)
	})
	if found < 100 {
		t.Errorf("%d tasks have a way straight up", found)
	}
}
