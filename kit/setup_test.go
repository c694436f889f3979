package kit_test

import (
	"math"
	"testing"

	"shotline/api"
	"shotline/kit"
)

// many returns so many items, and so many rules.
func many(items, rules int) api.KitSetup {
	var k api.KitSetup
	for i := range items {
		k.Items = append(k.Items, api.KitItem{Name: "i" + string(rune('a'+i%26)) + string(rune('a'+i/26)), Kind: 1 + i%4, Bought: i})
	}
	for i := range rules {
		k.Rules = append(k.Rules, api.KitRule{Name: "r" + string(rune('a'+i)), Kind: 1 + i%4, Days: i, Uses: 1})
	}
	return k
}

// P7.1: what is wrong with a setup. Its errors come first in every function.
func TestCheckSetup(t *testing.T) {
	item := func(name string, kind, bought int) api.KitItem {
		return api.KitItem{Name: name, Kind: kind, Bought: bought}
	}
	rule := func(name string, kind, days, uses int) api.KitRule {
		return api.KitRule{Name: name, Kind: kind, Days: days, Uses: uses}
	}
	items := func(l ...api.KitItem) api.KitSetup {
		k := shed()
		k.Items = append(k.Items, l...)
		return k
	}
	rules := func(l ...api.KitRule) api.KitSetup {
		k := shed()
		k.Rules = append(k.Rules, l...)
		return k
	}
	both := func(i api.KitItem, r api.KitRule) api.KitSetup {
		return api.KitSetup{Items: []api.KitItem{i}, Rules: []api.KitRule{r}}
	}
	manyAnd := func(items, rules int, i api.KitItem) api.KitSetup {
		k := many(items, rules)
		k.Items = append(k.Items, i)
		return k
	}
	for i, test := range []struct {
		k api.KitSetup
		e api.Errno
	}{
		{api.KitSetup{}, api.OK},
		{shed(), api.OK},
		{many(30, 20), api.OK},
		{many(31, 20), api.ErrLarge},
		{manyAnd(30, 0, api.KitItem{}), api.ErrLarge},
		{manyAnd(29, 21, api.KitItem{}), api.ErrName},
		{many(30, 21), api.ErrLarge},
		{both(item("a", 1, 0), rule("a", 1, 1, 1)), api.OK},
		{both(item("abcdefghij-9", 4, 100000), rule("ABCDEFGHIJKL", 4, 10000, 1000)), api.OK},
		{items(item("A", 1, 0), item("test", 2, 1), item("service", 3, 2), item("x", 4, 3)), api.OK},
		{items(item("", 0, -1)), api.ErrName},
		{items(item("1", 1, 0)), api.ErrName},
		{items(item("a b", 1, 0)), api.ErrName},
		{items(item("abcdefghijklm", 1, 0)), api.ErrName},
		{items(item("a", 0, -1)), api.ErrExists},
		{items(item("c1", 3, 0)), api.ErrExists},
		{items(item("r", 1, 0)), api.ErrExists},
		{items(item("x", 0, -1)), api.ErrKind},
		{items(item("x", 5, 0)), api.ErrKind},
		{items(item("x", -1, 0)), api.ErrKind},
		{items(item("x", math.MinInt, 0)), api.ErrKind},
		{items(item("x", 1, -1)), api.ErrRange},
		{items(item("x", 1, 100001)), api.ErrRange},
		{rules(rule("a", 1, 1, 0), rule("b", 2, 0, 1), rule("c1", 3, 1, 1), rule("A", 4, 1, 0)), api.OK},
		{rules(rule("", 0, -1, -1)), api.ErrName},
		{rules(rule("-", 1, 1, 1)), api.ErrName},
		{rules(rule("a_", 1, 1, 1)), api.ErrName},
		{rules(rule("test", 0, -1, -1)), api.ErrExists},
		{rules(rule("service", 3, 1, 1)), api.ErrExists},
		{rules(rule("x", 0, -1, -1)), api.ErrKind},
		{rules(rule("x", 5, 0, 0)), api.ErrKind},
		{rules(rule("x", 1, -1, 0)), api.ErrRange},
		{rules(rule("x", 1, 10001, 0)), api.ErrRange},
		{rules(rule("x", 1, 0, -1)), api.ErrRange},
		{rules(rule("x", 1, 0, 1001)), api.ErrRange},
		{rules(rule("x", 1, 0, 0)), api.ErrZero},
		// The first item with an error decides, then the first rule with one.
		{items(item("x", 1, -1), item("", 1, 0)), api.ErrRange},
		{items(item("x", 0, 0), item("x", 1, 0)), api.ErrKind},
		{items(item("x", 1, 0), item("x", 1, 0), item("y", 0, 0)), api.ErrExists},
		{rules(rule("x", 1, 0, 0), rule("", 1, 1, 1)), api.ErrZero},
		{rules(rule("x", 1, 0, 1001), rule("x", 1, 1, 1)), api.ErrRange},
		{both(item("x", 1, -1), rule("", 1, 1, 1)), api.ErrRange},
		{both(item("x", 1, 0), rule("", 1, 1, 1)), api.ErrName},
	} {
		if e := kit.CheckSetup(test.k); e != test.e {
			t.Errorf("setup %d: error %d, want %d", i, e, test.e)
		}
		n, e := kit.CheckEvents(test.k, nil)
		expect(t, "CheckEvents of "+flat(test.k), n, e, 0, test.e)
		if test.e == api.OK {
			continue
		}
		for name, call := range functions() {
			a := question()
			a.k = test.k
			x, e := call(a)
			if e != test.e || !isZero(x) {
				t.Errorf("%s of setup %d: %v, error %d, want %d", name, i, x, e, test.e)
			}
		}
	}
}
