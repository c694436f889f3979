package kit_test

import (
	"fmt"
	"math"
	"math/rand"
	"reflect"
	"slices"
	"testing"

	"shotline/api"
	"shotline/kit"
)

// The tests use the exported functions alone. What they expect is found in the words of the definitions, by model.

var extremes = []int{math.MinInt, -10000001, -1, 0, 1, 2, 3, 4, 5, 6, 7, 8, 100, 101, 365, 366, 1000, 1001, 9999, 10000, 10001, 99999, 100000, 100001, 9999999, 10000000, math.MaxInt}

// shed and diary are the setup and the events of the examples.
func shed() api.KitSetup {
	return api.KitSetup{
		Items: []api.KitItem{{Name: "c1", Kind: api.KitCompressor}, {Name: "a", Kind: api.KitCylinder}, {Name: "b", Kind: api.KitCylinder}, {Name: "r", Kind: api.KitRegulator, Bought: 100}},
		Rules: []api.KitRule{{Name: "test", Kind: api.KitCylinder, Days: 1000}, {Name: "service", Kind: api.KitRegulator, Days: 365, Uses: 2}},
	}
}

func diary() []api.KitEvent {
	return []api.KitEvent{fill(5, "c1", "a"), fill(6, "a", "b"), air(7, "c1", false)}
}

func checked(day int, item, rule string, passed bool) api.KitEvent {
	return api.KitEvent{Kind: api.KitCheck, Day: day, Item: item, Rule: rule, Passed: passed}
}

func use(day int, item string) api.KitEvent {
	return api.KitEvent{Kind: api.KitUse, Day: day, Item: item}
}

func fill(day int, from, item string) api.KitEvent {
	return api.KitEvent{Kind: api.KitFill, Day: day, From: from, Item: item}
}

func empty(day int, item string) api.KitEvent {
	return api.KitEvent{Kind: api.KitEmpty, Day: day, Item: item}
}

func air(day int, item string, passed bool) api.KitEvent {
	return api.KitEvent{Kind: api.KitAir, Day: day, Item: item, Passed: passed}
}

func batch(compressor string, number int) api.KitBatch {
	return api.KitBatch{Compressor: compressor, Number: number}
}

func due(item, rule string, day int) api.KitDue {
	return api.KitDue{Item: item, Rule: rule, Day: day}
}

func at(item string, day int) api.KitCase { return api.KitCase{Item: item, Day: day} }

// broken is the reason of a rule, foul that of a batch.
func broken(kind int, rule string) api.KitReason { return api.KitReason{Kind: kind, Rule: rule} }

func foul(compressor string, number int) api.KitReason {
	return api.KitReason{Kind: api.ReasonAir, Batch: batch(compressor, number)}
}

// flat is a value in which a nil list and an empty one are the same.
func flat(x any) string { return fmt.Sprintf("%+v", x) }

func expect(t *testing.T, what string, got any, e api.Errno, want any, wanted api.Errno) {
	t.Helper()
	if e != wanted || flat(got) != flat(want) || reflect.TypeOf(got) != reflect.TypeOf(want) {
		t.Errorf("%s: %+v, error %d; want %+v, error %d", what, got, e, want, wanted)
	}
}

// refuse checks that there is this error, beside a zero value.
func refuse[T any](t *testing.T, what string, got T, e, wanted api.Errno) {
	t.Helper()
	var zero T
	expect(t, what, got, e, zero, wanted)
}

// usable checks what Usable tells of an item on a day.
func usable(t *testing.T, k api.KitSetup, l []api.KitEvent, c api.KitCase, reasons ...api.KitReason) {
	t.Helper()
	is, got, e := kit.Usable(k, l, c)
	expect(t, "Usable of "+flat(c), got, e, reasons, api.OK)
	if is != (len(reasons) == 0) {
		t.Errorf("whether %+v may be used: %v", c, is)
	}
}

// asked is all that the functions are asked with.
type asked struct {
	k     api.KitSetup
	l     []api.KitEvent
	x     api.KitEvent
	c     api.KitCase
	d     api.KitDue
	day   int
	item  string
	batch api.KitBatch
}

// question is what every function answers.
func question() asked {
	return asked{k: shed(), l: diary(), x: empty(8, "b"), c: at("b", 7), d: due("r", "service", 200), day: 1000, item: "a", batch: batch("c1", 0)}
}

// functions call the functions of the package but for those of texts of events and Parse.
func functions() map[string]func(a asked) (any, api.Errno) {
	return map[string]func(a asked) (any, api.Errno){
		"CheckSetup":  func(a asked) (any, api.Errno) { return nil, kit.CheckSetup(a.k) },
		"CheckEvents": func(a asked) (any, api.Errno) { return told(kit.CheckEvents(a.k, a.l)) },
		"AddEvent":    func(a asked) (any, api.Errno) { return told(kit.AddEvent(a.k, a.l, a.x)) },
		"Usable": func(a asked) (any, api.Errno) {
			is, _, e := kit.Usable(a.k, a.l, a.c)
			return is, e
		},
		"its reasons": func(a asked) (any, api.Errno) {
			_, reasons, e := kit.Usable(a.k, a.l, a.c)
			return reasons, e
		},
		"DaysLeft":    func(a asked) (any, api.Errno) { return told(kit.DaysLeft(a.k, a.l, a.d)) },
		"UsesLeft":    func(a asked) (any, api.Errno) { return told(kit.UsesLeft(a.k, a.l, a.d)) },
		"Due":         func(a asked) (any, api.Errno) { return told(kit.Due(a.k, a.l, a.day)) },
		"BatchesIn":   func(a asked) (any, api.Errno) { return told(kit.BatchesIn(a.k, a.l, a.item)) },
		"BadBatches":  func(a asked) (any, api.Errno) { return told(kit.BadBatches(a.k, a.l)) },
		"Quarantined": func(a asked) (any, api.Errno) { return told(kit.Quarantined(a.k, a.l)) },
		"Reached":     func(a asked) (any, api.Errno) { return told(kit.Reached(a.k, a.l, a.batch)) },
		"Lost":        func(a asked) (any, api.Errno) { return told(kit.Lost(a.k, a.l, a.x)) },
		"History":     func(a asked) (any, api.Errno) { return told(kit.History(a.k, a.l, a.item)) },
		"Print":       func(a asked) (any, api.Errno) { return told(kit.Print(a.k)) },
	}
}

func told[T any](x T, e api.Errno) (any, api.Errno) { return x, e }

// isZero tells whether a value is the zero value of its type, or an empty list.
func isZero(x any) bool {
	v := reflect.ValueOf(x)
	return !v.IsValid() || v.IsZero() || v.Kind() == reflect.Slice && v.Len() == 0
}

// chance makes values of all kinds.
type chance struct{ *rand.Rand }

func newChance(seed int) chance { return chance{rand.New(rand.NewSource(int64(seed)))} }

func (c chance) from(least, most int) int { return least + c.Intn(most-least+1) }

func (c chance) name() string { return string(rune('a' + c.Intn(8))) }

// setup returns a right setup of few days, so that many a check is too old.
func (c chance) setup() api.KitSetup {
	var k api.KitSetup
	for _, i := range c.Perm(8)[:c.from(1, 8)] {
		kind := []int{1, 1, 1, 1, 2, 3, 3, 4}[c.Intn(8)]
		k.Items = append(k.Items, api.KitItem{Name: string(rune('a' + i)), Kind: kind, Bought: c.Intn(2) * c.Intn(30)})
	}
	for _, i := range c.Perm(8)[:c.Intn(5)] {
		r := api.KitRule{Name: string(rune('a' + i)), Kind: c.from(1, 4), Days: c.Intn(2) * c.from(1, 80), Uses: c.Intn(2) * c.from(1, 6)}
		if r.Days == 0 && r.Uses == 0 {
			r.Days = 20
		}
		k.Rules = append(k.Rules, r)
	}
	return k
}

// event returns an event that is mostly right alone; it is on a day or some days later.
func (c chance) event(k api.KitSetup, day int) api.KitEvent {
	x := api.KitEvent{Kind: []int{0, 0, 1, 1, 2, 2, 2, 2, 2, 3, 4, 4}[c.Intn(12)], Day: day + c.Intn(2)*c.Intn(6)}
	switch x.Kind {
	case api.KitCheck:
		if len(k.Rules) > 0 {
			r := k.Rules[c.Intn(len(k.Rules))]
			x.Rule, x.Item = r.Name, c.item(k, r.Kind)
		}
		x.Passed = c.Intn(3) > 0
	case api.KitUse:
		x.Item = c.item(k, c.from(1, 4))
	case api.KitFill:
		x.Item, x.From = c.item(k, api.KitCylinder), c.item(k, []int{api.KitCylinder, api.KitCompressor}[c.Intn(2)])
	case api.KitEmpty:
		x.Item = c.item(k, api.KitCylinder)
	case api.KitAir:
		x.Item, x.Passed = c.item(k, api.KitCompressor), c.Intn(2) == 0
	}
	c.spoil(&x)
	return x
}

// item returns the name of an item, if it may be of a kind.
func (c chance) item(k api.KitSetup, kind int) string {
	of := slices.DeleteFunc(slices.Clone(k.Items), func(i api.KitItem) bool { return i.Kind != kind })
	if len(of) == 0 || c.Intn(10) == 0 {
		of = k.Items
	}
	return of[c.Intn(len(of))].Name
}

// spoil changes some events, so that they are mostly wrong.
func (c chance) spoil(x *api.KitEvent) {
	switch c.Intn(40) {
	case 0:
		x.Day -= c.Intn(10)
	case 1:
		x.Rule = c.name()
	case 2:
		x.From = c.name()
	case 3:
		x.Passed = !x.Passed
	case 4:
		x.Item = c.name()
	case 5:
		x.Kind = c.from(-1, 5)
	}
}

// events returns right events of a setup, and others that were not possible behind their beginnings, by their numbers.
func (c chance) events(k api.KitSetup, most int) ([]api.KitEvent, map[int][]api.KitEvent) {
	m := model{k: k}
	wrong := map[int][]api.KitEvent{}
	day := 0
	for range most {
		x := c.event(k, day)
		if m.errorOf(x) != api.OK {
			wrong[len(m.l)] = append(wrong[len(m.l)], x)
			continue
		}
		m.l = append(m.l, x)
		day = x.Day
	}
	return m.l, wrong
}

// someShops calls a function with setups and events by chance.
func someShops(n, most int, call func(c chance, m model, wrong map[int][]api.KitEvent)) {
	for seed := range n {
		c := newChance(seed)
		k := c.setup()
		l, wrong := c.events(k, most)
		call(c, model{k, l}, wrong)
	}
}

// roomy returns a list with room for more.
func roomy[T any](l []T) []T {
	return append(make([]T, 0, len(l)+5), l...)
}

// padded returns the events with checks behind them, 200 in all.
func padded(l []api.KitEvent) []api.KitEvent {
	return append(slices.Clone(l), slices.Repeat([]api.KitEvent{checked(7, "a", "test", true)}, 200-len(l))...)
}
