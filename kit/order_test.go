package kit_test

import (
	"slices"
	"testing"

	"shotline/api"
)

// fault is something wrong with what is asked, and its error.
type fault struct {
	name  string
	spoil func(a *asked)
	e     api.Errno
}

func faults() []fault {
	return []fault{
		{"setup", func(a *asked) { a.k.Items[1].Name = "b" }, api.ErrExists},
		{"events", func(a *asked) { a.l[0].Passed = true }, api.ErrForm},
		{"full", func(a *asked) { a.l = padded(a.l) }, api.ErrLarge},
		{"event", func(a *asked) { a.x.Kind = 5 }, api.ErrKind},
		{"item", func(a *asked) { a.item = "x" }, api.ErrMissing},
		{"no cylinder", func(a *asked) { a.item = "r" }, api.ErrUnit},
		{"item of the case", func(a *asked) { a.c.Item = "x" }, api.ErrMissing},
		{"day of the case", func(a *asked) { a.c.Day = -1 }, api.ErrRange},
		{"early", func(a *asked) { a.c.Day = 6 }, api.ErrEarly},
		{"item of the due", func(a *asked) { a.d.Item = "x" }, api.ErrMissing},
		{"rule", func(a *asked) { a.d.Rule = "look" }, api.ErrMissing},
		{"other kind", func(a *asked) { a.d.Rule = "test" }, api.ErrUnit},
		{"day of the due", func(a *asked) { a.d.Day = -1 }, api.ErrRange},
		{"failed", func(a *asked) { a.l = append(a.l, checked(200, "r", "service", false)) }, api.ErrState},
		{"no days", func(a *asked) { a.k.Rules[1].Days = 0 }, api.ErrNone},
		{"no uses", func(a *asked) { a.k.Rules[1].Uses = 0 }, api.ErrNone},
		{"day", func(a *asked) { a.day = 100001 }, api.ErrRange},
		{"compressor", func(a *asked) { a.batch.Compressor = "x" }, api.ErrMissing},
		{"no compressor", func(a *asked) { a.batch.Compressor = "a" }, api.ErrUnit},
		{"number", func(a *asked) { a.batch.Number = 1 }, api.ErrRange},
	}
}

// orderOf returns for each function the faults that it looks for, in the order of their errors.
func orderOf() map[string][]string {
	return map[string][]string{
		"CheckSetup":  {"setup"},
		"CheckEvents": {"setup", "events"},
		"AddEvent":    {"setup", "events", "full", "event"},
		"Usable":      {"setup", "events", "item of the case", "day of the case", "early"},
		"its reasons": {"setup", "events", "item of the case", "day of the case", "early"},
		"DaysLeft":    {"setup", "events", "item of the due", "rule", "other kind", "day of the due", "failed", "no days"},
		"UsesLeft":    {"setup", "events", "item of the due", "rule", "other kind", "failed", "no uses"},
		"Due":         {"setup", "events", "day"},
		"BatchesIn":   {"setup", "events", "item", "no cylinder"},
		"BadBatches":  {"setup", "events"},
		"Quarantined": {"setup", "events"},
		"Reached":     {"setup", "events", "compressor", "no compressor", "number"},
		"Lost":        {"setup", "events", "full", "event"},
		"History":     {"setup", "events", "item"},
		"Print":       {"setup"},
	}
}

// P7.1 to P7.5, R1, R2: of several errors each function returns the one that comes first, beside a zero value.
func TestOrderOfErrors(t *testing.T) {
	all := map[string]fault{}
	for _, f := range faults() {
		all[f.name] = f
	}
	for name, call := range functions() {
		order := orderOf()[name]
		for set := range 1 << len(order) {
			a, wanted := question(), api.OK
			// The last fault is laid first, as an earlier one may take its place.
			for i, fault := range slices.Backward(order) {
				if set>>i&1 == 1 {
					all[fault].spoil(&a)
					wanted = all[fault].e
				}
			}
			x, e := call(a)
			if e != wanted || e != api.OK && !isZero(x) {
				t.Errorf("%s with %v, set %b: %v, error %d, want %d", name, order, set, x, e, wanted)
			}
		}
	}
}

// P7.1 to P7.5, R2: what a function does not take, or look at, brings no error.
func TestErrorsOfOthers(t *testing.T) {
	for name, call := range functions() {
		for _, f := range faults() {
			if slices.Contains(orderOf()[name], f.name) || slices.Contains(alsoWrong(name), f.name) {
				continue
			}
			a := question()
			f.spoil(&a)
			if x, e := call(a); e != api.OK {
				t.Errorf("%s with the fault %s: %v, error %d", name, f.name, x, e)
			}
		}
	}
}

// alsoWrong returns the faults that a function meets as another one: behind a later event, a day is too early.
func alsoWrong(name string) []string {
	return map[string][]string{
		"AddEvent":    {"failed"},
		"Lost":        {"failed"},
		"Usable":      {"failed"},
		"its reasons": {"failed"},
	}[name]
}
