package kit_test

import (
	"math"
	"slices"
	"testing"

	"shotline/api"
	"shotline/kit"
)

// added checks what AddEvent and CheckEvents tell of one event more, with a wrong one behind it.
func added(t *testing.T, k api.KitSetup, l []api.KitEvent, x api.KitEvent, wanted api.Errno) {
	t.Helper()
	longer, e := kit.AddEvent(k, l, x)
	behind := append(slices.Clone(l), x, api.KitEvent{Kind: 7})
	n, f := kit.CheckEvents(k, behind)
	if wanted == api.OK {
		expect(t, "AddEvent of "+flat(x), longer, e, behind[:len(l)+1], api.OK)
		expect(t, "CheckEvents of "+flat(x), n, f, len(l)+1, api.ErrKind)
		return
	}
	refuse(t, "AddEvent of "+flat(x), longer, e, wanted)
	expect(t, "CheckEvents of "+flat(x), n, f, len(l), wanted)
}

// P7.2: what is wrong with an event alone, in the order of its errors; that it would not be possible does not matter.
func TestEventsAlone(t *testing.T) {
	k := shed()
	k.Items = append(k.Items, api.KitItem{Name: "o", Kind: api.KitOther}, api.KitItem{Name: "c2", Kind: api.KitCompressor})
	l := []api.KitEvent{fill(200, "c1", "a"), fill(200, "a", "b")}
	for _, test := range []struct {
		x api.KitEvent
		e api.Errno
	}{
		{checked(200, "a", "test", true), api.OK},
		{checked(100000, "r", "service", false), api.OK},
		{use(200, "a"), api.OK},
		{use(200, "c1"), api.OK},
		{use(100000, "o"), api.OK},
		{fill(200, "c2", "a"), api.OK},
		{fill(200, "b", "a"), api.OK},
		{empty(200, "b"), api.OK},
		{air(200, "c1", true), api.OK},
		{air(200, "c2", false), api.OK},
		{api.KitEvent{Kind: 5, Day: -1, Item: "x", Rule: "x", From: "x", Passed: true}, api.ErrKind},
		{api.KitEvent{Kind: -1, Day: 200, Item: "a"}, api.ErrKind},
		{api.KitEvent{Kind: math.MinInt, Day: 200, Item: "a"}, api.ErrKind},
		{use(-1, "x"), api.ErrRange},
		{use(100001, "x"), api.ErrRange},
		{checked(-1, "a", "test", true), api.ErrRange},
		{fill(100001, "c1", "a"), api.ErrRange},
		{empty(math.MinInt, "a"), api.ErrRange},
		{air(math.MaxInt, "c1", true), api.ErrRange},
		{api.KitEvent{Kind: api.KitUse, Day: 200, Item: "x", Passed: true}, api.ErrMissing},
		{use(200, ""), api.ErrMissing},
		{use(200, "test"), api.ErrMissing},
		{checked(200, "x", "x", true), api.ErrMissing},
		{fill(200, "r", "x"), api.ErrMissing},
		{empty(200, "A"), api.ErrMissing},
		{air(200, "c", false), api.ErrMissing},
		{api.KitEvent{Kind: api.KitUse, Day: 0, Item: "a", Rule: "test"}, api.ErrForm},
		{api.KitEvent{Kind: api.KitUse, Day: 0, Item: "a", From: "c1"}, api.ErrForm},
		{api.KitEvent{Kind: api.KitUse, Day: 0, Item: "a", Passed: true}, api.ErrForm},
		{api.KitEvent{Kind: api.KitCheck, Day: 0, Item: "a", Rule: "x", From: "x"}, api.ErrForm},
		{api.KitEvent{Kind: api.KitCheck, Day: 0, Item: "a", Rule: "service", From: "c1"}, api.ErrForm},
		{api.KitEvent{Kind: api.KitFill, Day: 0, Item: "a", From: "x", Rule: "test"}, api.ErrForm},
		{api.KitEvent{Kind: api.KitFill, Day: 0, Item: "r", From: "r", Passed: true}, api.ErrForm},
		{api.KitEvent{Kind: api.KitEmpty, Day: 0, Item: "r", Rule: " "}, api.ErrForm},
		{api.KitEvent{Kind: api.KitEmpty, Day: 0, Item: "r", From: " "}, api.ErrForm},
		{api.KitEvent{Kind: api.KitEmpty, Day: 0, Item: "r", Passed: true}, api.ErrForm},
		{api.KitEvent{Kind: api.KitAir, Day: 0, Item: "r", Rule: "service"}, api.ErrForm},
		{api.KitEvent{Kind: api.KitAir, Day: 0, Item: "r", From: "a"}, api.ErrForm},
		{checked(0, "a", "", true), api.ErrMissing},
		{checked(0, "a", "x", true), api.ErrMissing},
		{checked(0, "r", "r", true), api.ErrMissing},
		{checked(0, "a", "service", true), api.ErrUnit},
		{checked(0, "c1", "test", false), api.ErrUnit},
		{fill(0, "", "r"), api.ErrMissing},
		{fill(0, "x", "r"), api.ErrMissing},
		{fill(0, "c1", "r"), api.ErrUnit},
		{fill(0, "a", "c1"), api.ErrUnit},
		{fill(0, "c2", "c1"), api.ErrUnit},
		{fill(0, "c1", "c1"), api.ErrUnit},
		{fill(0, "r", "r"), api.ErrUnit},
		{fill(0, "a", "o"), api.ErrUnit},
		{fill(0, "r", "a"), api.ErrUnit},
		{fill(0, "o", "a"), api.ErrUnit},
		{fill(0, "a", "a"), api.ErrClash},
		{empty(0, "c1"), api.ErrUnit},
		{empty(0, "r"), api.ErrUnit},
		{empty(0, "o"), api.ErrUnit},
		{air(0, "a", true), api.ErrUnit},
		{air(0, "r", false), api.ErrUnit},
		{air(0, "o", false), api.ErrUnit},
	} {
		added(t, k, l, test.x, test.e)
	}
}

// P7.2: why an event is not possible behind others, in the order of its errors.
func TestPossibleEvents(t *testing.T) {
	k := shed()
	k.Items = append(k.Items, api.KitItem{Name: "late", Kind: api.KitCylinder, Bought: 50}, api.KitItem{Name: "c2", Kind: api.KitCompressor, Bought: 40}, api.KitItem{Name: "d", Kind: api.KitCylinder})
	l := append(diary(), checked(20, "r", "service", false))
	added(t, k, diary(), l[3], api.ErrEarly)
	l[3] = checked(20, "d", "test", false)
	for _, test := range []struct {
		x api.KitEvent
		e api.Errno
	}{
		{use(19, "r"), api.ErrOrder},
		{use(0, "b"), api.ErrOrder},
		{empty(19, "a"), api.ErrOrder},
		{use(20, "r"), api.ErrEarly},
		{use(99, "r"), api.ErrEarly},
		{use(100, "r"), api.OK},
		{checked(99, "r", "service", true), api.ErrEarly},
		{checked(100, "r", "service", true), api.OK},
		{empty(49, "late"), api.ErrEarly},
		{empty(50, "late"), api.OK},
		{air(39, "c2", true), api.ErrEarly},
		{air(40, "c2", true), api.OK},
		// Of a fill both must be bought, and both must be usable.
		{fill(39, "c2", "a"), api.ErrEarly},
		{fill(40, "c2", "a"), api.ErrState},
		{fill(49, "c2", "late"), api.ErrEarly},
		{fill(50, "c2", "late"), api.OK},
		{fill(49, "c1", "late"), api.ErrEarly},
		{fill(50, "c1", "late"), api.ErrState},
		{fill(50, "d", "late"), api.ErrState},
		{fill(50, "c2", "d"), api.ErrState},
		{fill(50, "late", "d"), api.ErrState},
		{fill(50, "a", "b"), api.ErrState},
		{use(20, "a"), api.ErrState},
		{use(20, "b"), api.ErrState},
		{use(20, "c1"), api.ErrState},
		{use(20, "d"), api.ErrState},
		{use(50, "late"), api.OK},
		{use(1050, "late"), api.OK},
		{use(1051, "late"), api.ErrState},
		{fill(1051, "c2", "late"), api.ErrState},
		// What may not be used may be checked, emptied and analysed.
		{checked(20, "a", "test", true), api.OK},
		{checked(20, "d", "test", true), api.OK},
		{checked(20, "d", "test", false), api.OK},
		{empty(20, "b"), api.OK},
		{empty(20, "d"), api.OK},
		{air(20, "c1", true), api.OK},
		{air(20, "c1", false), api.OK},
	} {
		added(t, k, l, test.x, test.e)
	}
}

// P7.2: the events of the examples, one by one.
func TestExampleOfEvents(t *testing.T) {
	k := shed()
	l := []api.KitEvent(nil)
	for _, x := range append(diary(), empty(8, "b"), air(9, "c1", true), fill(9, "c1", "b"), use(9, "b"), use(100, "r"), use(100, "r")) {
		added(t, k, l, x, api.OK)
		l = append(l, x)
	}
	added(t, k, diary(), fill(8, "c1", "a"), api.ErrState)
	added(t, k, l, use(100, "r"), api.ErrState)
	added(t, k, l, use(100, "a"), api.ErrState)
	added(t, k, append(l, checked(100, "r", "service", true)), use(100, "r"), api.OK)
}

// P7.2: there are at most 200 events; more come ahead of what is wrong with one.
func TestManyEvents(t *testing.T) {
	k := shed()
	l := padded(diary())
	n, e := kit.CheckEvents(k, l)
	expect(t, "CheckEvents of 200", n, e, 0, api.OK)
	longer, e := kit.AddEvent(k, l[:199], l[199])
	expect(t, "AddEvent of the last one", longer, e, l, api.OK)
	for _, x := range []api.KitEvent{empty(8, "b"), {Kind: 7}} {
		longer, e = kit.AddEvent(k, l, x)
		refuse(t, "AddEvent of one too many", longer, e, api.ErrLarge)
		lost, e := kit.Lost(k, l, x)
		refuse(t, "Lost of one too many", lost, e, api.ErrLarge)
		n, e = kit.CheckEvents(k, append(l, x))
		expect(t, "CheckEvents of 201", n, e, 0, api.ErrLarge)
	}
	n, e = kit.CheckEvents(k, make([]api.KitEvent, 201))
	expect(t, "CheckEvents of 201 wrong ones", n, e, 0, api.ErrLarge)
	n, e = kit.CheckEvents(k, make([]api.KitEvent, 200))
	expect(t, "CheckEvents of 200 wrong ones", n, e, 0, api.ErrMissing)
	l[0].Kind = 9
	longer, e = kit.AddEvent(k, l, empty(8, "b"))
	refuse(t, "AddEvent behind a wrong one", longer, e, api.ErrKind)
}

// P7.2, P7.8: events by chance are accepted and refused as the definitions tell; beginnings of right events are right.
func TestEventsByChance(t *testing.T) {
	right, refused := 0, map[api.Errno]int{}
	someShops(400, 80, func(_ chance, m model, wrong map[int][]api.KitEvent) {
		n, e := kit.CheckEvents(m.k, m.l)
		expect(t, flat(m), n, e, 0, api.OK)
		for i := range m.l {
			n, e := kit.CheckEvents(m.k, m.l[:i])
			expect(t, flat(m.before(i)), n, e, 0, api.OK)
			right++
		}
		for i, l := range wrong {
			for _, x := range l {
				wanted := m.before(i).errorOf(x)
				added(t, m.k, m.l[:i], x, wanted)
				refused[wanted]++
			}
		}
	})
	for _, e := range []api.Errno{api.ErrKind, api.ErrRange, api.ErrMissing, api.ErrForm, api.ErrUnit, api.ErrClash, api.ErrOrder, api.ErrEarly, api.ErrState} {
		if refused[e] < 10 {
			t.Errorf("there were only %d events with the error %d", refused[e], e)
		}
	}
	if right < 5000 {
		t.Errorf("there were only %d right events", right)
	}
}

// P7.5: the numbers of the events of an item.
func TestHistory(t *testing.T) {
	l := append(diary(), empty(8, "b"), air(9, "c1", true), fill(9, "c1", "b"), checked(9, "a", "test", true), use(100, "r"))
	for item, want := range map[string][]int{"a": {0, 1, 6}, "b": {1, 3, 5}, "c1": {0, 2, 4, 5}, "r": {7}} {
		got, e := kit.History(shed(), l, item)
		expect(t, "History of "+item, got, e, want, api.OK)
		got, e = kit.History(shed(), nil, item)
		expect(t, "History of "+item+" without events", got, e, []int{}, api.OK)
	}
	for _, item := range []string{"", "x", "test", "A"} {
		got, e := kit.History(shed(), l, item)
		refuse(t, "History of "+item, got, e, api.ErrMissing)
	}
	// A rule that has the name of an item is not that item.
	k := shed()
	k.Rules[0].Name = "b"
	got, e := kit.History(k, []api.KitEvent{checked(5, "a", "b", true)}, "b")
	expect(t, "History of b", got, e, []int{}, api.OK)
	someShops(50, 60, func(_ chance, m model, _ map[int][]api.KitEvent) {
		for _, i := range m.k.Items {
			var want []int
			for n, x := range m.l {
				if x.Item == i.Name || x.Kind == api.KitFill && x.From == i.Name {
					want = append(want, n)
				}
			}
			got, e := kit.History(m.k, m.l, i.Name)
			expect(t, flat(m), got, e, want, api.OK)
		}
	})
}
