package exposure_test

import (
	"math"
	"slices"
	"testing"

	"shotline/api"
	"shotline/exposure"
)

// twenty is a table of so many rows, whose last one begins at the greatest pressure.
func twenty() []api.OxygenRow {
	var t []api.OxygenRow
	for i := range 20 {
		t = append(t, api.OxygenRow{From: 3981 + i, Rate: 100000 * (i % 2)})
	}
	return t
}

// rightRules are the rules of the examples, and rules at the ends of their ranges.
func rightRules() []api.ExposureRules {
	return []api.ExposureRules{
		sample(),
		{Oxygen: api.OxygenLimits{Least: 1, Most: 1}, Narcotic: 0, Dense: 1, Breath: 1, Emergency: 1, Pause: 0, Ascent: 1},
		{Table: twenty(), Oxygen: api.OxygenLimits{Least: 4000, Most: 4000}, Narcotic: 30000, Dense: 100000, Breath: 100000, Emergency: 100000, Pause: 3600, Ascent: 3000},
		{Table: table(0, 0), Oxygen: api.OxygenLimits{Least: 1, Most: 4000}, Narcotic: 1, Dense: 2, Breath: 3, Emergency: 4, Pause: 5, Ascent: 6},
		{Table: []api.OxygenRow{}, Oxygen: api.OxygenLimits{Least: 1, Most: 4000}, Dense: 2, Breath: 3, Emergency: 4, Ascent: 6},
	}
}

type wrongRule struct {
	r    api.ExposureRules
	want api.Errno
}

// wrongRules are rules with one error, and others with the one that comes first.
func wrongRules() []wrongRule {
	var l []wrongRule
	add := func(want api.Errno, change func(r *api.ExposureRules)) {
		r := sample()
		change(&r)
		l = append(l, wrongRule{r, want})
	}
	numbers := func(r *api.ExposureRules) []*int {
		return []*int{&r.Table[0].From, &r.Table[0].Rate, &r.Table[1].From, &r.Table[1].Rate, &r.Oxygen.Least, &r.Oxygen.Most, &r.Narcotic, &r.Dense,
			&r.Breath, &r.Emergency, &r.Pause, &r.Ascent}
	}
	for i, wrong := range [][]int{{-1, 4001}, {-1, 100001}, {-1, 4001}, {-1, 100001}, {0, 4001}, {0, 4001}, {-1, 30001}, {0, 100001},
		{0, 100001}, {0, 100001}, {-1, 3601}, {0, 3001}} {
		for _, n := range append(wrong, math.MinInt, math.MaxInt) {
			add(api.ErrRange, func(r *api.ExposureRules) { *numbers(r)[i] = n })
		}
	}
	add(api.ErrLarge, func(r *api.ExposureRules) { r.Table = append(table(0, 1), twenty()...) })
	add(api.ErrOrder, func(r *api.ExposureRules) { r.Table = table(500, 100, 500, 300) })
	add(api.ErrOrder, func(r *api.ExposureRules) { r.Table = table(500, 100, 499, 300) })
	add(api.ErrOrder, func(r *api.ExposureRules) { r.Table = append(twenty()[:19], api.OxygenRow{From: 3999}) })
	add(api.ErrOrder, func(r *api.ExposureRules) { r.Oxygen = api.OxygenLimits{Least: 161, Most: 160} })
	// Several errors: the one named first, and of rows that of the first one.
	add(api.ErrLarge, func(r *api.ExposureRules) { r.Table = slices.Repeat(table(-1, 1), 21) })
	add(api.ErrOrder, func(r *api.ExposureRules) { r.Table = table(5, 1, 5, 1, -1, 1) })
	add(api.ErrRange, func(r *api.ExposureRules) { r.Table = table(5, 1, -1, 1, 5, 1) })
	add(api.ErrRange, func(r *api.ExposureRules) { r.Table = table(5, 1, 5, -1) })
	add(api.ErrRange, func(r *api.ExposureRules) { r.Table, r.Oxygen.Least = table(-1, 1), 2000 })
	add(api.ErrOrder, func(r *api.ExposureRules) { r.Table, r.Oxygen.Least = table(5, 1, 5, 1), 0 })
	add(api.ErrOrder, func(r *api.ExposureRules) { r.Oxygen.Least, r.Narcotic = 2000, -1 })
	add(api.ErrOrder, func(r *api.ExposureRules) { r.Oxygen.Least, r.Ascent = 2000, 0 })
	return l
}

// P5.1: right and wrong rules.
func TestRules(t *testing.T) {
	for _, r := range rightRules() {
		if e := exposure.CheckRules(r); e != api.OK {
			t.Errorf("%+v: error %d", r, e)
		}
	}
	for _, c := range wrongRules() {
		a := question()
		a.r = c.r
		for _, name := range []string{"CheckRules", "RateAt", "ClockOf", "Breaks", "DepthsOf", "FirstWrong", "EscapeFrom", "NeedAt", "Reserves", "Survives", "LastTurn"} {
			if x, e := functions()[name](a); e != c.want || !isZero(x) {
				t.Errorf("%s, %+v: %v, error %d, want %d", name, c.r, x, e, c.want)
			}
		}
		s, e := exposure.Print(c.r)
		refuse(t, flat(c.r), s, e, c.want)
	}
}
