package desk_test

import (
	"fmt"
	"slices"
	"testing"

	"shotline/api"
)

// fault is something wrong with what is asked, and its error.
type fault struct {
	name  string
	spoil func(a *asked)
	e     api.Errno
}

func faults() []fault {
	return []fault{
		{"vessels", func(a *asked) { a.h.Vessels[2].Volume = 0 }, api.ErrRange},
		{"kit", func(a *asked) { a.h.Kit.Items[2].Kind = 0 }, api.ErrKind},
		{"people", func(a *asked) { a.h.People[3].Name = "mel" }, api.ErrExists},
		{"rules", func(a *asked) { a.h.Rules.Table = append(a.h.Rules.Table, api.OxygenRow{From: 1}) }, api.ErrOrder},
		{"table", func(a *asked) { a.h.Table = nil }, api.ErrShape},
		{"long log", func(a *asked) { a.log = append(a.log, plans("l", 51)...) }, api.ErrLarge},
		{"wrong entry", func(a *asked) { a.log[8] = entry("ann sign d1") }, api.ErrClash},
		{"full", func(a *asked) { a.log = append(a.log, plans("f", 60-len(a.log))...) }, api.ErrFull},
		{"entry", func(a *asked) { a.x.By = "ann" }, api.ErrState},
		{"no dive", func(a *asked) { a.dive = "d9" }, api.ErrMissing},
		{"no record", func(a *asked) { a.dive = "d2" }, api.ErrNone},
		{"other seconds", func(a *asked) { a.log[7] = entry("ann record d1 0 0 600 0") }, api.ErrClash},
		{"no dive to drill", func(a *asked) { a.at.Dive = "d9" }, api.ErrMissing},
		{"no second", func(a *asked) { a.at.Second = 1081 }, api.ErrRange},
		{"no person", func(a *asked) { a.diver = "zed" }, api.ErrMissing},
		{"no dives", func(a *asked) { a.diver = "mel" }, api.ErrNone},
		{"no number", func(a *asked) { a.number = 0 }, api.ErrMissing},
		{"fix", func(a *asked) { a.number = 10 }, api.ErrKind},
		{"line feed", func(a *asked) { a.log[5].Text += "\n" }, api.ErrSyntax},
	}
}

// plans are entries that are right behind any others.
func plans(name string, count int) []api.DeskEntry {
	var l []api.DeskEntry
	for i := range count {
		l = append(l, entry(fmt.Sprint("bob plan ", name, i, " 1000 1 210 0")))
	}
	return l
}

// orderOf returns for each function the faults that it looks for, in the order of their errors.
func orderOf() map[string][]string {
	house := []string{"vessels", "kit", "people", "rules", "table"}
	log := append(slices.Clone(house), "long log", "wrong entry")
	with := func(more ...string) []string { return slices.Concat(log, more) }
	return map[string][]string{
		"CheckDesk":               house,
		"Accept":                  with("full", "entry"),
		"StateOf":                 log,
		"the number of StateOf":   log,
		"Counting":                log,
		"the numbers of Counting": log,
		"Contents":                log,
		"Booked":                  log,
		"Breathed":                with("no dive"),
		"Deviation":               with("no dive", "no record", "other seconds"),
		"Drill":                   with("no dive to drill", "no second"),
		"LoadsOf":                 with("no person", "no dives"),
		"Unsigned":                log,
		"Moves":                   with("no number", "fix"),
		"Changed":                 with("full", "entry"),
		"SealOf":                  {"long log", "line feed"},
		"Journal":                 {"long log", "line feed"},
		"Report":                  log,
		"what Do writes":          log,
	}
}

// P10.1 to P10.8, R1, R2: of several errors each function returns the one that comes first, beside a zero value.
func TestOrderOfErrors(t *testing.T) {
	all := map[string]fault{}
	for _, f := range faults() {
		all[f.name] = f
	}
	for name, call := range functions() {
		order := orderOf()[name]
		for set := range 1 << len(order) {
			a, wanted := question(), api.OK
			// The last fault is laid first, as an earlier one may take its place.
			for i, fault := range slices.Backward(order) {
				if set>>i&1 == 1 {
					all[fault].spoil(&a)
					wanted = all[fault].e
				}
			}
			x, e := call(a)
			if e != wanted || e != api.OK && !isZero(x) && !tellsNumber(name) {
				t.Errorf("%s with %v, set %b: %v, error %d, want %d", name, order, set, x, e, wanted)
			}
		}
	}
}

// tellsNumber tells whether a function returns something beside an error.
func tellsNumber(name string) bool { return name == "the number of StateOf" }

// P10.1 to P10.8, R2: what a function does not take, or look at, brings no error.
func TestErrorsOfOthers(t *testing.T) {
	for name, call := range functions() {
		for _, f := range faults() {
			if slices.Contains(orderOf()[name], f.name) || f.name == "line feed" {
				continue
			}
			a := question()
			f.spoil(&a)
			if x, e := call(a); e != api.OK {
				t.Errorf("%s with the fault %s: %v, error %d", name, f.name, x, e)
			}
		}
	}
}

// P10.2: beside the error of a log stands the number of the entries ahead of the one that is refused, beside others 0.
func TestNumbersBesideErrors(t *testing.T) {
	for _, f := range faults() {
		a := question()
		f.spoil(&a)
		n, e := functions()["the number of StateOf"](a)
		want := map[string]int{"wrong entry": 8, "line feed": 5}[f.name]
		if e != api.OK && n != want {
			t.Errorf("the fault %s: %v, error %d, want %d", f.name, n, e, want)
		}
	}
}
