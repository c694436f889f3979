package kit_test

import (
	"testing"

	"shotline/api"
	"shotline/kit"
)

// P1: no function panics, whatever its numbers and names, and beside an error each other result is its zero value.
func TestEveryNumber(t *testing.T) {
	numbers := func(a *asked) []*int {
		return []*int{&a.k.Items[0].Kind, &a.k.Items[1].Kind, &a.k.Items[2].Bought, &a.k.Items[3].Bought, &a.k.Rules[0].Kind, &a.k.Rules[0].Days, &a.k.Rules[1].Days, &a.k.Rules[1].Uses,
			&a.l[0].Kind, &a.l[0].Day, &a.l[1].Day, &a.l[2].Kind, &a.l[2].Day, &a.x.Kind, &a.x.Day, &a.c.Day, &a.d.Day, &a.day, &a.batch.Number}
	}
	names := func(a *asked) []*string {
		return []*string{&a.k.Items[0].Name, &a.k.Items[1].Name, &a.k.Rules[1].Name, &a.l[0].Item, &a.l[0].From, &a.l[1].Rule, &a.l[2].Item, &a.x.Item, &a.x.Rule, &a.x.From, &a.c.Item, &a.d.Item, &a.d.Rule, &a.item, &a.batch.Compressor}
	}
	others := []string{"", " ", "a", "b", "c1", "r", "x", "test", "service", "a b", "\n", "\xff", "abcdefghijklm"}
	for i := range numbers(new(question())) {
		for _, n := range extremes {
			a := question()
			*numbers(&a)[i] = n
			everyFunction(t, a)
		}
	}
	for i := range names(new(question())) {
		for _, name := range others {
			a := question()
			*names(&a)[i] = name
			everyFunction(t, a)
		}
	}
	everyFunction(t, asked{})
	for _, a := range []asked{{k: shed()}, {l: diary()}, {k: shed(), l: diary()}, {k: many(40, 40), l: make([]api.KitEvent, 300)}, {k: many(30, 20), l: make([]api.KitEvent, 200)}} {
		everyFunction(t, a)
	}
	c := newChance(1)
	for range 5000 {
		a := question()
		for range 2 {
			*numbers(&a)[c.Intn(len(numbers(&a)))] = extremes[c.Intn(len(extremes))]
			*names(&a)[c.Intn(len(names(&a)))] = others[c.Intn(len(others))]
		}
		everyFunction(t, a)
	}
}

// everyFunction calls each function. CheckEvents returns a number beside an error.
func everyFunction(t *testing.T, a asked) {
	t.Helper()
	for name, call := range functions() {
		x, e := call(a)
		if e != api.OK && !isZero(x) && name != "CheckEvents" {
			t.Errorf("%s of %+v: %v, error %d", name, a, x, e)
		}
	}
	kit.FormatEvent(a.x)
}

// R4: a nil list is an empty one.
func TestEmptyLists(t *testing.T) {
	a, b := question(), question()
	a.k, a.l = api.KitSetup{}, nil
	b.k, b.l = api.KitSetup{Items: []api.KitItem{}, Rules: []api.KitRule{}}, []api.KitEvent{}
	for range 2 {
		for name, call := range functions() {
			x, e := call(a)
			y, e2 := call(b)
			expect(t, name, flat(x), e, flat(y), e2)
		}
		a.k, b.k = shed(), shed()
	}
}

// R6, R7: no argument is changed, results come again, and are in new memory.
func TestArgumentsStay(t *testing.T) {
	someShops(60, 40, func(c chance, m model, _ map[int][]api.KitEvent) {
		a := asked{k: m.k, l: m.l, x: c.event(m.k, 200), day: c.Intn(100), item: c.name(), batch: batch(c.name(), 0)}
		a.c, a.d = at(c.name(), 300), due(c.name(), c.name(), 50)
		// There is room behind each list, into which nothing may be written.
		a.k.Items, a.k.Rules, a.l = roomy(a.k.Items), roomy(a.k.Rules), roomy(a.l)
		all := func() string {
			return flat(a) + flat(a.k.Items[:cap(a.k.Items)]) + flat(a.k.Rules[:cap(a.k.Rules)]) + flat(a.l[:cap(a.l)])
		}
		before := all()
		results := map[string]string{}
		for range 5 {
			for name, call := range functions() {
				x, e := call(a)
				again := flat(x) + flat(e)
				if first, ok := results[name]; ok && first != again || all() != before {
					t.Fatalf("%s of %s: %s, then %s; now it is %+v", name, before, first, again, a)
				}
				results[name] = again
			}
		}
	})
}

// R6: a list that is returned may be changed, or made longer, and nothing else changes.
func TestResultsAreNew(t *testing.T) {
	for name, call := range functions() {
		a := question()
		a.l = roomy(a.l)
		x, _ := call(a)
		before := flat(x)
		spoil(x)
		if y, _ := call(a); flat(y) != before || flat(a) != flat(question()) {
			t.Errorf("%s: %v, then %s; now it is asked with %+v", name, y, before, a)
		}
	}
	k, l := shed(), roomy(diary())
	one, _ := kit.AddEvent(k, l, empty(8, "a"))
	two, _ := kit.AddEvent(k, l, empty(8, "b"))
	expect(t, "AddEvent", one, api.OK, append(diary(), empty(8, "a")), api.OK)
	expect(t, "AddEvent", two, api.OK, append(diary(), empty(8, "b")), api.OK)
}

// spoil changes the elements of a list.
func spoil(x any) {
	switch l := x.(type) {
	case []api.KitEvent:
		clear(l)
	case []api.KitReason:
		clear(l)
	case []api.KitDue:
		clear(l)
	case []api.KitBatch:
		clear(l)
	case []string:
		clear(l)
	case []int:
		clear(l)
	}
}
