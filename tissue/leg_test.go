package tissue_test

import (
	"math"
	"math/rand"
	"slices"
	"testing"

	"shotline/api"
	"shotline/tissue"
)

// wrongLegs are legs with the error that comes first.
func wrongLegs() map[api.TissueLeg]api.Errno {
	return map[api.TissueLeg]api.Errno{
		{From: 399, To: 1000, Seconds: 1, Gas: fullGas}:     api.ErrRange,
		{From: 31101, To: 1000, Seconds: 1, Gas: fullGas}:   api.ErrRange,
		{From: 1000, To: 399, Seconds: 1, Gas: fullGas}:     api.ErrRange,
		{From: 1000, To: 31101, Seconds: 1, Gas: fullGas}:   api.ErrRange,
		{From: 1000, To: 1000, Seconds: -1, Gas: fullGas}:   api.ErrRange,
		{From: 1000, To: 1001, Seconds: 100001, Gas: air}:   api.ErrRange,
		{From: 1000, To: 1001, Gas: wideGas}:                api.ErrRange,
		{From: 1000, To: 1001, Gas: fullGas}:                api.ErrSum,
		{From: 1000, To: 1001, Gas: air}:                    api.ErrZero,
		{From: 1001, To: 1000, Gas: air}:                    api.ErrZero,
		{From: 1000, To: 1000, Gas: air}:                    api.OK,
		{From: 400, To: 31100, Seconds: 1, Gas: air}:        api.OK,
		{From: 31100, To: 400, Seconds: 100000, Gas: air}:   api.OK,
		{From: 1000, To: 1000, Seconds: 1, Gas: api.Gas{}}:  api.OK,
		{From: 1000, To: 1000, Seconds: 0, Gas: wideGas}:    api.ErrRange,
		{From: 31100, To: 400, Seconds: 1, Gas: fullGas}:    api.ErrSum,
		{From: math.MaxInt, To: math.MinInt, Seconds: 0}:    api.ErrRange,
		{From: 1000, To: 1000, Seconds: math.MaxInt}:        api.ErrRange,
		{From: 1000, To: 1000, Seconds: math.MinInt}:        api.ErrRange,
		{From: math.MinInt, To: math.MinInt, Seconds: 1000}: api.ErrRange,
	}
}

// P3.4: right and wrong legs.
func TestCheckLeg(t *testing.T) {
	for x, want := range wrongLegs() {
		if e := tissue.CheckLeg(x); e != want {
			t.Errorf("%v: error %d, want %d", x, e, want)
		}
		l, e := tissue.Loaded(first(), nitrogen(0, 0), x, 0)
		if e != want {
			t.Errorf("Loaded: %v: error %d, want %d", x, e, want)
		}
		zeroBeside(t, "Loaded", l, e)
		all, e := tissue.Followed(first(), nitrogen(0, 0), []api.TissueLeg{down(), x}, 0)
		if e != want {
			t.Errorf("Followed: %v: error %d, want %d", x, e, want)
		}
		zeroBeside(t, "Followed", all, e)
	}
}

// P3.4: loads behind legs, as in the examples.
func TestLoaded(t *testing.T) {
	fresh := nitrogen(740230, 740230)
	tests := []struct {
		leg  api.TissueLeg
		fine int
		want []api.TissueLoad
	}{
		{stay(4000, 600), 0, nitrogen(1925230, 1925230)},
		{down(), 0, nitrogen(740230, 1925230)},
		{down(), 1, nitrogen(1087308, 1679809)},
		{stay(4000, 0), 0, fresh},
		{stay(4000, 0), 6, fresh},
		{stay(1000, 100000), 6, fresh},
	}
	for _, test := range tests {
		l, e := tissue.Loaded(first(), fresh, test.leg, test.fine)
		expect(t, flat(test.leg), l, e, test.want, api.OK)
	}
}

// P3.4: loads behind legs, by the definition; P3.10: they stay from 0 to MaxLoad.
func TestLoadedByDefinition(t *testing.T) {
	someTasks(1500, func(x api.TissueTask, fine int) {
		l, e := tissue.Loaded(x.Table, x.Loads, x.Leg, fine)
		states := follow(x.Table, x.Loads, x.Leg, fine)
		expect(t, flat(x), l, e, states[len(states)-1].loads, api.OK)
		if e := tissue.CheckLoads(x.Table, l); e != api.OK {
			t.Errorf("%v: loads %v with the error %d", x, l, e)
		}
	})
}

// P3.4: fewer seconds than steps, and times that steps do not divide.
func TestShortLegs(t *testing.T) {
	l := []api.TissueLoad{load(100, 900000, 5, 5), load(700000, 700000, 0, 300000), load(0, 0, 0, 0)}
	for seconds := 1; seconds <= 130; seconds += 1 + seconds/20 {
		for fine := range api.MaxRefine + 1 {
			for _, to := range []int{1007, 400} {
				x := api.TissueLeg{From: 1000, To: to, Seconds: seconds, Gas: tx1845}
				got, e := tissue.Loaded(three(), l, x, fine)
				states := follow(three(), l, x, fine)
				expect(t, flat(x), got, e, states[len(states)-1].loads, api.OK)
			}
		}
	}
}

// P3.10: loads stay within their range at its ends.
func TestGreatestLoads(t *testing.T) {
	const most = 100000000
	for _, l := range []api.TissueLoad{load(most, most, most, most), load(0, most, 0, most), load(0, 0, 0, 0)} {
		for _, g := range []api.Gas{{}, helium, oxygen, tx1845} {
			for _, x := range []api.TissueLeg{{From: 31100, To: 31100}, {From: 400, To: 31100}, {From: 31100, To: 400}} {
				for seconds := 1; seconds <= 100000; seconds *= 10 {
					x.Seconds, x.Gas = seconds, g
					for fine := range api.MaxRefine + 1 {
						loads := []api.TissueLoad{l, l, l}
						got, e := tissue.Loaded(three(), loads, x, fine)
						states := follow(three(), loads, x, fine)
						expect(t, flat(x), got, e, states[len(states)-1].loads, api.OK)
						if e := tissue.CheckLoads(three(), got); e != api.OK {
							t.Errorf("%v: loads %v with the error %d", x, got, e)
						}
					}
				}
			}
		}
	}
}

// P3.4: the loads behind a leg enclose what a compartment holds that approaches a changing pressure by halves.
func TestLoadedEncloses(t *testing.T) {
	someTasks(1500, func(x api.TissueTask, fine int) {
		exact := make([]api.TissueLoad, len(x.Table))
		for i, l := range x.Loads {
			exact[i] = load(l.Nitrogen.Lo, l.Nitrogen.Lo, l.Helium.Hi, l.Helium.Hi)
		}
		got, _ := tissue.Loaded(x.Table, exact, x.Leg, fine)
		share := x.Leg.Gas
		for i, c := range x.Table {
			contains(t, x, got[i].Nitrogen, held(exact[i].Nitrogen.Lo, 1000-share.Oxygen-share.Helium, c.Nitrogen, x.Leg))
			contains(t, x, got[i].Helium, held(exact[i].Helium.Lo, share.Helium, c.Helium, x.Leg))
		}
	})
}

func contains(t *testing.T, x api.TissueTask, r api.Range, load float64) {
	t.Helper()
	const slip = 0.001 // of floats
	if load < float64(r.Lo)-slip || load > float64(r.Hi)+slip {
		t.Errorf("%v: the load %f is not from %d to %d", x, load, r.Lo, r.Hi)
	}
}

// held returns what a compartment holds of a part behind a leg, by the solution of the differential equation.
func held(load, part, half int, x api.TissueLeg) float64 {
	if x.Seconds == 0 {
		return float64(load)
	}
	left := math.Exp2(-float64(x.Seconds) / float64(half))
	breathed := float64(part * (x.From - 63))
	rate := float64(part*(x.To-x.From)) / float64(x.Seconds)
	lag := rate * float64(half) / math.Ln2
	return breathed + float64(part*(x.To-x.From)) - lag - (breathed-float64(load)-lag)*left
}

// P3.7: loads with one fineness meet those with another one, and loads inside others stay there.
func TestLoadedMeet(t *testing.T) {
	c := chance{rand.New(rand.NewSource(8))}
	someTasks(600, func(x api.TissueTask, _ int) {
		inner := make([]api.TissueLoad, len(x.Loads))
		for i, l := range x.Loads {
			inner[i] = api.TissueLoad{Nitrogen: part(c, l.Nitrogen), Helium: part(c, l.Helium)}
		}
		var all [][]api.TissueLoad
		for fine := range api.MaxRefine + 1 {
			outer, _ := tissue.Loaded(x.Table, x.Loads, x.Leg, fine)
			l, _ := tissue.Loaded(x.Table, inner, x.Leg, fine)
			is, e := tissue.Inside(l, outer)
			expect(t, flat(x), is, e, true, api.OK)
			all = append(all, l)
		}
		for _, a := range all {
			for _, b := range all {
				for i := range a {
					if a[i].Nitrogen.Lo > b[i].Nitrogen.Hi || a[i].Helium.Lo > b[i].Helium.Hi {
						t.Errorf("%v: %v lies beyond %v", x, a[i], b[i])
					}
				}
			}
		}
	})
}

// part returns a part of a range.
func part(c chance, r api.Range) api.Range {
	lo := c.from(r.Lo, r.Hi)
	return api.Range{Lo: lo, Hi: c.from(lo, r.Hi)}
}

// P3.4: errors of Loaded and Followed, in their order.
func TestWrongLoaded(t *testing.T) {
	wrong := stay(0, 0)
	tests := []struct {
		table []api.Compartment
		loads []api.TissueLoad
		leg   api.TissueLeg
		fine  int
		want  api.Errno
	}{
		{nil, nitrogen(1, 0), wrong, -1, api.ErrShape},
		{wrongCompartments()[:1], nil, wrong, -1, api.ErrRange},
		{first(), nil, wrong, -1, api.ErrShape},
		{first(), nitrogen(1, 0), wrong, -1, api.ErrOrder},
		{first(), nitrogen(0, 0), api.TissueLeg{From: 1000, To: 1001, Gas: air}, -1, api.ErrZero},
		{first(), nitrogen(0, 0), api.TissueLeg{From: 1000, To: 1000, Gas: fullGas}, 7, api.ErrSum},
		{first(), nitrogen(0, 0), down(), -1, api.ErrRange},
		{first(), nitrogen(0, 0), down(), 7, api.ErrRange},
		{first(), nitrogen(0, 0), stay(1000, 0), 7, api.ErrRange},
		{first(), nitrogen(0, 0), stay(1000, 0), math.MaxInt, api.ErrRange},
	}
	for _, test := range tests {
		l, e := tissue.Loaded(test.table, test.loads, test.leg, test.fine)
		refuse(t, flat(test), l, e, test.want)
		all, e := tissue.Followed(test.table, test.loads, []api.TissueLeg{down(), test.leg}, test.fine)
		refuse(t, flat(test), all, e, test.want)
	}
	many := slices.Repeat([]api.TissueLeg{stay(1000, 60)}, 200)
	all, e := tissue.Followed(first(), nitrogen(0, 0), many, 0)
	if len(all) != 200 || e != api.OK {
		t.Errorf("200 legs: %d loads, error %d", len(all), e)
	}
	all, e = tissue.Followed(first(), nitrogen(0, 0), append([]api.TissueLeg{wrong}, many...), -1)
	refuse(t, "201 legs", all, e, api.ErrLarge)
	all, e = tissue.Followed(first(), nil, append(many, wrong), -1)
	refuse(t, "201 legs without loads", all, e, api.ErrShape)
	all, e = tissue.Followed(first(), nitrogen(0, 0), nil, 7)
	refuse(t, "no legs, too fine", all, e, api.ErrRange)
	zero := api.TissueLeg{From: 1000, To: 1001, Gas: air}
	all, e = tissue.Followed(first(), nitrogen(0, 0), []api.TissueLeg{zero, wrong}, 0)
	refuse(t, "two wrong legs", all, e, api.ErrZero)
	all, e = tissue.Followed(first(), nitrogen(0, 0), []api.TissueLeg{wrong, zero}, 0)
	refuse(t, "two wrong legs", all, e, api.ErrRange)
}

// P3.10: Followed is Loaded again and again.
func TestFollowed(t *testing.T) {
	all, e := tissue.Followed(first(), nitrogen(740230, 740230), nil, 3)
	expect(t, "no legs", all, e, [][]api.TissueLoad{}, api.OK)
	all, e = tissue.Followed(first(), nitrogen(740230, 740230), []api.TissueLeg{stay(4000, 600), stay(1000, 0), stay(4000, 600)}, 0)
	expect(t, "three legs", all, e, [][]api.TissueLoad{nitrogen(1925230, 1925230), nitrogen(1925230, 1925230), nitrogen(2517730, 2517730)}, api.OK)
	c := chance{rand.New(rand.NewSource(4))}
	someTasks(100, func(x api.TissueTask, fine int) {
		var legs []api.TissueLeg
		var want [][]api.TissueLoad
		l := x.Loads
		for range c.Intn(6) {
			leg := c.leg()
			legs = append(legs, leg)
			l, _ = tissue.Loaded(x.Table, l, leg, fine)
			want = append(want, l)
		}
		got, e := tissue.Followed(x.Table, x.Loads, legs, fine)
		expect(t, flat(legs), got, e, want, api.OK)
	})
}

// P3.4: rests.
func TestRested(t *testing.T) {
	l, e := tissue.Rested(first(), nitrogen(1925230, 1925230), 1000, 600)
	expect(t, "a half time", l, e, nitrogen(1332730, 1332730), api.OK)
	l, e = tissue.Rested(first(), nitrogen(1925230, 1925231), 1000, 0)
	expect(t, "no time", l, e, nitrogen(1925230, 1925231), api.OK)
	l, e = tissue.Rested(first(), []api.TissueLoad{load(0, 0, 800000, 800000)}, 1000, 240)
	expect(t, "helium", l, e, step(first(), []api.TissueLoad{load(0, 0, 800000, 800000)}, exactly(1000), 240, air, 20), api.OK)
	c := chance{rand.New(rand.NewSource(5))}
	for range 1000 {
		table := c.table()
		loads := c.loads(len(table))
		surface, seconds := c.from(400, 1100), c.from(0, 1<<c.from(0, 19))
		l, e := tissue.Rested(table, loads, surface, seconds)
		expect(t, flat(table), l, e, step(table, loads, exactly(surface), seconds, air, 20), api.OK)
	}
	for _, right := range [][2]int{{400, 1000000}, {1100, 1000000}, {1100, 0}} {
		l, e := tissue.Rested(three(), make([]api.TissueLoad, 3), right[0], right[1])
		expect(t, flat(right), l, e, step(three(), make([]api.TissueLoad, 3), exactly(right[0]), right[1], air, 20), api.OK)
	}
	for _, wrong := range [][2]int{{399, 0}, {1101, 0}, {1000, -1}, {1000, 1000001}} {
		l, e := tissue.Rested(first(), nitrogen(0, 0), wrong[0], wrong[1])
		refuse(t, flat(wrong), l, e, api.ErrRange)
		l, e = tissue.Rested(first(), nitrogen(1, 0), wrong[0], wrong[1])
		refuse(t, flat(wrong), l, e, api.ErrOrder)
		l, e = tissue.Rested(nil, nil, wrong[0], wrong[1])
		refuse(t, flat(wrong), l, e, api.ErrShape)
	}
}
