package day_test

import (
	"slices"
	"testing"

	"shotline/api"
)

// fault is something wrong with what is asked, and its error.
type fault struct {
	name  string
	spoil func(a *asked)
	e     api.Errno
}

func faults() []fault {
	return []fault{
		{"day", func(a *asked) { a.t.Slots[1].Seats = 21 }, api.ErrRange},
		{"ways", manyWays, api.ErrLarge},
		{"shape", func(a *asked) { a.plan = append(a.plan, 99) }, api.ErrShape},
		{"no slot of the wish", func(a *asked) { a.plan[1] = 8 }, api.ErrMissing},
		{"hard rule", func(a *asked) { a.t.Rules.Gas = 29 }, api.ErrStock},
		{"other rule", func(a *asked) { a.plan[0] = -1 }, api.ErrGap},
		{"value", func(a *asked) { a.value = -1 }, api.ErrRange},
		{"nodes", func(a *asked) { a.tree = nil }, api.ErrShape},
		{"node", func(a *asked) { a.tree[0].Kind = 4 }, api.ErrKind},
		{"no proof", func(a *asked) { a.value = 64 }, api.ErrProof},
		{"no clash", func(a *asked) { a.t.Rules.Gap = 60 }, api.ErrNone},
		{"no wish", func(a *asked) { a.set = append(a.set, 4) }, api.ErrMissing},
		{"order", func(a *asked) { a.set = append([]int{3, 0}, a.set...) }, api.ErrOrder},
		{"granted", func(a *asked) { a.set = []int{0, 1} }, api.ErrProof},
		{"more than a clash", func(a *asked) { a.set = []int{0, 1, 3} }, api.ErrClash},
		{"lengths", func(a *asked) { a.old = append(a.old, 9) }, api.ErrShape},
		{"old number", func(a *asked) { a.old[2] = 8 }, api.ErrRange},
		{"new number", func(a *asked) { a.now[0] = -2 }, api.ErrRange},
		{"slot", func(a *asked) { a.slot = 8 }, api.ErrMissing},
		{"wish", func(a *asked) { a.wish = 4 }, api.ErrMissing},
		{"wish of the grant", func(a *asked) { a.at[0] = -1 }, api.ErrMissing},
		{"slot of the grant", func(a *asked) { a.at[1] = 8 }, api.ErrMissing},
		{"rule of the grant", func(a *asked) { a.at = [2]int{3, 1} }, api.ErrBusy},
	}
}

// manyWays makes a day of 8 slots in which each wish names all of them, and what was right stays so.
func manyWays(a *asked) {
	for _, name := range []string{"a", "b", "c", "d", "e", "f"} {
		a.t.Slots = append(a.t.Slots, api.DaySlot{Name: name, From: 1000, To: 1000, Seats: 1})
	}
	for w := range a.t.Wishes {
		a.t.Wishes[w].Slots = []int{0, 1, 2, 3, 4, 5, 6, 7}
	}
}

// orderOf returns for each function the faults that it looks for, in the order of their errors.
func orderOf() map[string][]string {
	form := []string{"day", "shape", "no slot of the wish"}
	rightPlan := append(slices.Clone(form), "hard rule", "other rule")
	plan := func(more ...string) []string { return slices.Concat(rightPlan, more) }
	ways := func(more ...string) []string { return append([]string{"day", "ways"}, more...) }
	return map[string][]string{
		"CheckTask":                 {"day"},
		"CheckPlan":                 plan(),
		"what CheckPlan names":      plan(),
		"Hard":                      append(form, "hard rule"),
		"BestPlan":                  ways(),
		"the best value":            ways(),
		"the tree of BestPlan":      ways(),
		"CheckTree":                 ways("value", "nodes", "node", "no proof"),
		"SmallestClash":             ways("no clash"),
		"CheckClash":                ways("no wish", "order", "granted", "more than a clash"),
		"Reschedule":                ways("lengths", "old number"),
		"the changes of Reschedule": ways("lengths", "old number"),
		"Moves":                     {"lengths", "old number", "new number"},
		"Roster":                    plan("slot"),
		"Seats":                     plan(),
		"GasLeft":                   plan(),
		"FreeFor":                   plan("wish"),
		"Grant":                     plan("wish of the grant", "slot of the grant", "rule of the grant"),
		"Without":                   {"day", "slot"},
		"the numbers of Without":    {"day", "slot"},
		"Print":                     {"day"},
	}
}

// P9.2 to P9.8, R1, R2: of several errors each function returns the one that comes first, beside a zero value.
func TestOrderOfErrors(t *testing.T) {
	all := map[string]fault{}
	for _, f := range faults() {
		all[f.name] = f
	}
	for name, call := range functions() {
		order := orderOf()[name]
		for set := range 1 << len(order) {
			a, wanted := question(), api.OK
			// The last fault is laid first, as an earlier one may take its place.
			for i, fault := range slices.Backward(order) {
				if set>>i&1 == 1 {
					all[fault].spoil(&a)
					wanted = all[fault].e
				}
			}
			x, e := call(a)
			if e != wanted || e != api.OK && !isZero(x) && !tellsNumber(name) {
				t.Errorf("%s with %v, set %b: %v, error %d, want %d", name, order, set, x, e, wanted)
			}
		}
	}
}

// P9.2 to P9.8, R2: what a function does not take, or look at, brings no error.
func TestErrorsOfOthers(t *testing.T) {
	for name, call := range functions() {
		for _, f := range faults() {
			if slices.Contains(orderOf()[name], f.name) || slices.Contains(alsoWrong(name), f.name) {
				continue
			}
			a := question()
			f.spoil(&a)
			if x, e := call(a); e != api.OK {
				t.Errorf("%s with the fault %s: %v, error %d", name, f.name, x, e)
			}
		}
	}
}

// alsoWrong returns the faults that a function meets as another one: without a clash no set is one.
func alsoWrong(name string) []string {
	return map[string][]string{"CheckClash": {"no clash"}}[name]
}

// P9.1 to P9.3: beside errors of a day, of many ways, or of the shape of a plan nothing is named.
func TestNumbersBesideErrors(t *testing.T) {
	for _, f := range faults() {
		if !slices.Contains([]string{"day", "ways", "shape", "value", "nodes"}, f.name) {
			continue
		}
		for name, call := range functions() {
			a := question()
			f.spoil(&a)
			if x, e := call(a); e != api.OK && !isZero(x) && name != "CheckTask" {
				t.Errorf("%s with the fault %s: %v, error %d", name, f.name, x, e)
			}
		}
	}
}
