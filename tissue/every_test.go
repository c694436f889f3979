package tissue_test

import (
	"slices"
	"strings"
	"testing"

	"shotline/api"
	"shotline/tissue"
)

// P1: no function panics, whatever its numbers, and beside an error each other result is its zero value.
func TestEveryNumber(t *testing.T) {
	for _, a := range extremes {
		r, e := tissue.RootOf(a)
		zeroBeside(t, "RootOf", r, e)
		for _, b := range extremes {
			for _, c := range extremes {
				r, e = tissue.Decay(a, b, c)
				zeroBeside(t, "Decay", r, e)
				someCompartments(t, a, b, c)
				l, e := tissue.Saturated(first(), api.Gas{Oxygen: a, Helium: b}, c)
				zeroBeside(t, "Saturated", l, e)
				l, e = tissue.Rested(first(), nitrogen(0, a), b, c)
				zeroBeside(t, "Rested", l, e)
				r, e = tissue.Ceiling(first(), nitrogen(a, b), c)
				zeroBeside(t, "Ceiling", r, e)
				k, e := tissue.KeptAt(first(), nitrogen(0, a), [2]int{b, c})
				zeroBeside(t, "KeptAt", k, e)
				is, e := tissue.Inside(nitrogen(0, a), []api.TissueLoad{load(0, 1, b, c)})
				zeroBeside(t, "Inside", is, e)
				legs, e := tissue.LegsOf(dive(api.DiveLeg{Seconds: a, Depth: b, Gas: c}))
				zeroBeside(t, "LegsOf", legs, e)
				someTask(t, fresh(api.TissueLeg{From: a, To: b, Seconds: c, Gas: air}, 500), 6)
				someTask(t, fresh(stay(a, b), 0), c)
				someTask(t, fresh(api.TissueLeg{From: 1000, To: 1000, Seconds: 1, Gas: api.Gas{Oxygen: a, Helium: b}}, c), 0)
			}
		}
	}
}

func someCompartments(t *testing.T, a, b, c int) {
	t.Helper()
	for _, x := range []api.Compartment{{Nitrogen: a, Helium: b, Base: c, Slope: 1000}, {Nitrogen: 1, Helium: a, Base: b, Slope: c}} {
		table := []api.Compartment{x}
		r, e := tissue.LimitAt(x, 1000, 500)
		zeroBeside(t, "LimitAt", r, e)
		if want := tissue.CheckTable(table); e != want {
			t.Errorf("LimitAt(%v): error %d, want %d", x, e, want)
		}
		s, e := tissue.Print(table)
		zeroBeside(t, "Print", s, e)
		someTask(t, api.TissueTask{Table: table, Loads: nitrogen(0, 5), Leg: down(), Factor: 5}, 2)
	}
	r, e := tissue.LimitAt(first()[0], a, b)
	zeroBeside(t, "LimitAt", r, e)
}

func someTask(t *testing.T, x api.TissueTask, fine int) {
	t.Helper()
	l, e := tissue.Loaded(x.Table, x.Loads, x.Leg, fine)
	zeroBeside(t, "Loaded", l, e)
	if e == api.OK && tissue.CheckLoads(x.Table, l) != api.OK {
		t.Errorf("Loaded(%v): %v", x, l)
	}
	k, e := tissue.Kept(x, fine)
	zeroBeside(t, "Kept", k, e)
	p, e := tissue.Peaks(x, fine)
	zeroBeside(t, "Peaks", p, e)
	k, n, e := tissue.Decided(x, fine)
	zeroBeside(t, "Decided", k, e)
	zeroBeside(t, "Decided", n, e)
}

// P1: the same of texts: each one in which some bytes of a right one are others, or missing.
func TestEveryText(t *testing.T) {
	text := strings.Repeat(firstText, 2)
	for i := range text {
		for _, part := range []string{"", " ", "\n", "\t", "-", "0", "9", "x", "tissue", "\x00", "\xff", "\u00a0", "\r", "9999999", "99999999999999999999"} {
			for _, s := range []string{text[:i] + part, text[:i] + part + text[i:], text[:i] + part + text[i+1:]} {
				x, n, e := tissue.Parse(s)
				zeroBeside(t, "Parse", x, e)
				if (e == api.ErrSyntax) != (n > 0) || n < 0 || n > strings.Count(s, "\n")+1 {
					t.Errorf("Parse(%q): line %d, error %d", s, n, e)
				}
				if back, e2 := tissue.Print(x); e == api.OK && (back != s || e2 != api.OK) {
					t.Errorf("Parse(%q): %v, whose text is %q", s, x, back)
				}
			}
		}
	}
}

// R6, R7: no argument is changed, results share no memory with arguments or with each other, and come again.
func TestArgumentsStay(t *testing.T) {
	someTasks(300, func(x api.TissueTask, fine int) {
		before := flat(x)
		legs := []api.TissueLeg{x.Leg, stay(x.Leg.To, 0), stay(x.Leg.To, 60)}
		loaded, _ := tissue.Loaded(x.Table, x.Loads, x.Leg, fine)
		followed, _ := tissue.Followed(x.Table, x.Loads, legs, fine)
		rested, _ := tissue.Rested(x.Table, x.Loads, 1000, 60)
		peaks, _ := tissue.Peaks(x, fine)
		results := append([][]api.TissueLoad{loaded, rested}, followed...)
		told := flat([]any{results, peaks})
		for i, l := range results {
			kept := slices.Clone(l)
			l[0].Nitrogen.Lo = -1
			if flat(x) != before {
				t.Fatalf("%v: the result %d shares memory with an argument", x, i)
			}
			l[0] = kept[0]
			for j, other := range results {
				if i != j && &l[0] == &other[0] {
					t.Fatalf("%v: the results %d and %d share memory", x, i, j)
				}
			}
		}
		tissue.KeptAt(x.Table, x.Loads, [2]int{1000, 500})
		tissue.Ceiling(x.Table, x.Loads, 500)
		tissue.Kept(x, fine)
		tissue.Decided(x, fine)
		tissue.Inside(x.Loads, x.Loads)
		tissue.Print(x.Table)
		if flat(x) != before {
			t.Fatalf("%s is changed: %v", before, x)
		}
		again := [][]api.TissueLoad{}
		loaded, _ = tissue.Loaded(x.Table, x.Loads, x.Leg, fine)
		rested, _ = tissue.Rested(x.Table, x.Loads, 1000, 60)
		followed, _ = tissue.Followed(x.Table, x.Loads, legs, fine)
		again = append(append(again, loaded, rested), followed...)
		peaks, _ = tissue.Peaks(x, fine)
		if flat([]any{again, peaks}) != told {
			t.Fatalf("%v: other results than before", x)
		}
	})
	p := dive(api.DiveLeg{Seconds: 60, Depth: 500}, api.DiveLeg{Seconds: 60, Depth: 500, Gas: 1})
	before := flat(p)
	tissue.LegsOf(p)
	if flat(p) != before {
		t.Errorf("LegsOf changes %s", before)
	}
}
