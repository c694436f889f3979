package exposure_test

import (
	"slices"
	"testing"

	"shotline/api"
	"shotline/exposure"
)

// P1: no function panics, whatever its numbers, and beside an error each other result is its zero value.
func TestEveryNumber(t *testing.T) {
	numbers := func(a *asked) []*int {
		return []*int{&a.p.Surface, &a.p.Gases[0].Oxygen, &a.p.Gases[0].Helium, &a.p.Legs[0].Seconds, &a.p.Legs[0].Depth, &a.p.Legs[0].Gas, &a.p.Legs[3].Seconds,
			&a.p.Legs[3].Depth, &a.r.Table[0].From, &a.r.Table[0].Rate, &a.r.Table[1].From, &a.r.Oxygen.Least, &a.r.Oxygen.Most, &a.r.Narcotic, &a.r.Dense,
			&a.r.Breath, &a.r.Emergency, &a.r.Pause, &a.r.Ascent, &a.g.Oxygen, &a.g.Helium, &a.leg, &a.breath, &a.second, &a.oxygen, &a.surface, &a.depth,
			&a.clock, &a.seconds, &a.amounts[0], &a.amounts[1]}
	}
	for i := range numbers(new(question())) {
		for _, n := range extremes {
			a := question()
			*numbers(&a)[i] = n
			everyFunction(t, a)
		}
	}
	everyFunction(t, asked{})
	for _, a := range []asked{{p: reef()}, {p: dive(), r: sample()}, {r: sample(), amounts: []int{1}}} {
		everyFunction(t, a)
	}
}

// everyFunction calls each function. Survives returns a second beside ErrBreak.
func everyFunction(t *testing.T, a asked) {
	t.Helper()
	for name, call := range functions() {
		if x, e := call(a); e != api.OK && !isZero(x) && !(name == "Survives" && e == api.ErrBreak) {
			t.Errorf("%s of %+v: %v, error %d", name, a, x, e)
		}
	}
	if s, e := exposure.Print(a.r); e != api.OK && s != "" {
		t.Errorf("Print(%+v): %q, error %d", a.r, s, e)
	}
}

// R4: a nil list is an empty one.
func TestEmptyLists(t *testing.T) {
	a, b := question(), question()
	a.p.Legs, a.r.Table = nil, nil
	b.p.Legs, b.r.Table = []api.DiveLeg{}, []api.OxygenRow{}
	for name, call := range functions() {
		a.second, b.second = 0, 0
		x, e := call(a)
		y, e2 := call(b)
		expect(t, name, flat(x), e, flat(y), e2)
	}
	s, e := exposure.Print(a.r)
	s2, e2 := exposure.Print(b.r)
	expect(t, "Print", s, e, s2, e2)
}

// R6, R7: no argument is changed, results come again, and are in new memory.
func TestArgumentsStay(t *testing.T) {
	someDives(100, func(_ chance, p api.DivePlan, r api.ExposureRules) {
		a := question()
		a.p, a.r, a.leg, a.second, a.amounts = p, r, 0, endOf(p)/2, slices.Repeat([]int{5000}, len(p.Gases))
		before := flat(a)
		results := map[string]string{}
		for name, call := range functions() {
			x, e := call(a)
			results[name] = flat(x) + flat(e)
		}
		for name, call := range functions() {
			x, e := call(a)
			if again := flat(x) + flat(e); again != results[name] || flat(a) != before {
				t.Fatalf("%s of %s: %s, then %s; now it is %+v", name, before, results[name], again, a)
			}
		}
	})
	text := sampleText
	one, _, _ := exposure.Parse(text)
	two, _, _ := exposure.Parse(text)
	one.Table[0].From = 77
	expect(t, "Parse", two, api.OK, sample(), api.OK)
	r := sample()
	for range 2 {
		s, e := exposure.Print(r)
		expect(t, "Print", s, e, sampleText, api.OK)
	}
	expect(t, "the rules", r, api.OK, sample(), api.OK)
}

// R6: a list that is returned may be changed, and nothing else changes.
func TestResultsAreNew(t *testing.T) {
	for name, call := range functions() {
		a := question()
		x, _ := call(a)
		before := flat(x)
		spoil(x)
		if y, _ := call(a); flat(y) != before || flat(a) != flat(question()) {
			t.Errorf("%s: %v, then %s; now it is asked with %+v", name, y, before, a)
		}
	}
}

// spoil changes the elements of a list.
func spoil(x any) {
	switch l := x.(type) {
	case []int:
		clear(l)
	case [][2]int:
		clear(l)
	case []api.LegBreak:
		clear(l)
	case []api.GasNeed:
		clear(l)
	}
}
