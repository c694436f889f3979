package mix_test

import (
	"testing"

	"shotline/api"
	"shotline/mix"
)

// P1: no function panics, whatever its numbers, and beside an error each other result is its zero value.
func TestEveryNumber(t *testing.T) {
	numbers := func(a *asked) []*int {
		source, proof := &a.t.Sources[1], &a.proof
		return []*int{&a.v[1].Volume, &a.v[1].Most, &a.l[0].Kind, &a.l[0].Day, &a.l[0].Gas.Oxygen, &a.l[0].Gas.Helium, &a.l[0].Amount, &a.l[1].Kind, &a.l[1].Day,
			&a.l[1].Amount, &a.l[1].Gas.Oxygen, &a.x.Kind, &a.x.Day, &a.x.Amount, &a.x.Gas.Helium, &a.c.Oxygen, &a.c.Helium, &a.c.Nitrogen, &a.amount,
			&a.w.Gas.Oxygen, &a.w.Gas.Helium, &a.w.Top.Oxygen, &a.w.Top.Helium, &a.w.Total, &a.g.Oxygen, &a.g.Helium, &a.tolerance,
			&a.f[0].Pressure, &a.f[0].Factor.Lo, &a.f[0].Factor.Hi, &a.f[1].Pressure, &a.f[1].Factor.Lo, &a.f[1].Factor.Hi, &a.pressure, &a.pressures.Lo, &a.pressures.Hi, &a.volume,
			&source.Gas.Oxygen, &source.Gas.Helium, &source.Cents, &source.Amount, &a.t.Begin.Oxygen, &a.t.Begin.Helium, &a.t.Begin.Nitrogen, &a.t.Total,
			&a.t.Oxygen.Lo, &a.t.Oxygen.Hi, &a.t.Helium.Lo, &a.t.Helium.Hi, &a.plan.Parts[0], &a.plan.Parts[1], &a.plan.Den,
			&proof.Whole, &proof.OxygenLow, &proof.OxygenHigh, &proof.HeliumLow, &proof.HeliumHigh, &proof.Den}
	}
	for i := range numbers(new(question())) {
		for _, n := range extremes {
			a := question()
			*numbers(&a)[i] = n
			a.refusal = a.proof
			everyFunction(t, a)
		}
	}
	everyFunction(t, asked{})
	for _, a := range []asked{{v: room()}, {l: diary()}, {v: room(), l: diary()}, {t: deal()}, {t: deal(), proof: proof()}, {plan: best()}, {f: factors()}} {
		everyFunction(t, a)
	}
	c := newChance(1)
	for range 3000 {
		a := question()
		for range 3 {
			*numbers(&a)[c.Intn(len(numbers(&a)))] = extremes[c.Intn(len(extremes))]
		}
		everyFunction(t, a)
	}
}

// everyFunction calls each function. CheckFills returns a number beside an error, CheapestFill a proof beside ErrNone.
func everyFunction(t *testing.T, a asked) {
	t.Helper()
	for name, call := range functions() {
		x, e := call(a)
		if name == "CheckFills" || name == "its proof" && e == api.ErrNone {
			continue
		}
		if e != api.OK && !isZero(x) {
			t.Errorf("%s of %+v: %v, error %d", name, a, x, e)
		}
	}
	mix.FormatFill(a.x)
}

// R4: a nil list is an empty one.
func TestEmptyLists(t *testing.T) {
	a, b := question(), question()
	a.v, a.l, a.f, a.t.Sources, a.plan.Parts = nil, nil, nil, nil, nil
	b.v, b.l, b.f, b.t.Sources, b.plan.Parts = []api.MixVessel{}, []api.MixFill{}, []api.MixFactor{}, []api.MixSource{}, []int{}
	for range 2 {
		for name, call := range functions() {
			x, e := call(a)
			y, e2 := call(b)
			expect(t, name, flat(x), e, flat(y), e2)
		}
		a.v, b.v, a.t, b.t = room(), room(), deal(), deal()
	}
}

// R6, R7: no argument is changed, results come again, and are in new memory.
func TestArgumentsStay(t *testing.T) {
	for seed := range 100 {
		c := newChance(seed)
		a := question()
		a.t, a.proof, a.refusal, a.c = c.task(), c.proof(), c.proof(), c.content(1000000000)
		a.plan = c.plan(a.t)
		// There is room behind each list, into which nothing may be written.
		a.v, a.l, a.f, a.t.Sources, a.plan.Parts = roomy(a.v), roomy(a.l), roomy(a.f), roomy(a.t.Sources), roomy(a.plan.Parts)
		all := func() string {
			return flat(a) + flat(a.v[:cap(a.v)]) + flat(a.l[:cap(a.l)]) + flat(a.t.Sources[:cap(a.t.Sources)])
		}
		before := all()
		results := map[string]string{}
		for range 3 {
			for name, call := range functions() {
				x, e := call(a)
				again := flat(x) + flat(e)
				if first, ok := results[name]; ok && first != again || all() != before {
					t.Fatalf("%s of %s: %s, then %s; now it is %+v", name, before, first, again, a)
				}
				results[name] = again
			}
		}
	}
}

// roomy returns a list with room for more.
func roomy[T any](l []T) []T {
	return append(make([]T, 0, len(l)+5), l...)
}

// R6: a list that is returned may be changed, or made longer, and nothing else changes.
func TestResultsAreNew(t *testing.T) {
	for name, call := range functions() {
		a := question()
		a.l = roomy(a.l)
		x, _ := call(a)
		before := flat(x)
		spoil(x)
		if y, _ := call(a); flat(y) != before || flat(a) != flat(question()) {
			t.Errorf("%s: %v, then %s; now it is asked with %+v", name, y, before, a)
		}
	}
	v, l := room(), roomy(diary())
	one, _ := mix.AddFill(v, l, vent(1, "s12", 1))
	two, _ := mix.AddFill(v, l, vent(1, "s12", 2))
	expect(t, "AddFill", one, api.OK, append(diary(), vent(1, "s12", 1)), api.OK)
	expect(t, "AddFill", two, api.OK, append(diary(), vent(1, "s12", 2)), api.OK)
}

// spoil changes the elements of a list.
func spoil(x any) {
	switch l := x.(type) {
	case []api.MixFill:
		clear(l)
	case []api.MixContent:
		clear(l)
	case api.MixPlan:
		clear(l.Parts)
	}
}
