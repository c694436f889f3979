package desk_test

import (
	"slices"
	"testing"

	"shotline/api"
	"shotline/desk"
)

// P10.2: the errors of the text of a fix, in their order.
func TestTextsOfFixes(t *testing.T) {
	try(t, house(), diary(), []trial{
		{"bob", "fix 9 sign d2", api.OK},
		{"bob", "fix 9", api.ErrSyntax},
		{"bob", "fix sign d2", api.ErrSyntax},
		{"bob", "fix  9 sign d2", api.ErrSyntax},
		{"bob", "fix x fix 9 sign d2", api.ErrSyntax},
		{"bob", "fix 09 sign d2", api.ErrSyntax},
		{"bob", "fix +9 sign d2", api.ErrSyntax},
		{"bob", "fix 9. sign d2", api.ErrSyntax},
		{"bob", "fix 1000 sign d2", api.ErrSyntax},
		{"bob", "fix 1000 fix 9", api.ErrSyntax},
		{"bob", "fix 9 fix 9 sign d2", api.ErrKind},
		{"bob", "fix 9 fix ", api.ErrKind},
		{"bob", "fix 9 fix x", api.ErrKind},
		{"bob", "fix 99 fix 9 sign d2", api.ErrKind},
		{"bob", "fix 9 fix", api.ErrSyntax},
		{"bob", "fix 9 ", api.ErrSyntax},
		{"bob", "fix 9 sign", api.ErrSyntax},
		{"bob", "fix 9  sign d2", api.ErrKind},
		{"bob", "fix 9 fixed x", api.ErrKind},
		{"bob", "fix 9 nothing x", api.ErrKind},
		{"bob", "fix 99 nothing", api.ErrSyntax},
		{"bob", "fix 9 dive 1 p ann 0 0 c9", api.ErrName},
		{"bob", "fix 99 dive 1 p ann 0 0 c9", api.ErrName},
		{"bob", "fix 9 dive d p ann 0 0", api.ErrSyntax},
		{"bob", "fix 9 record d9", api.ErrSyntax},
		{"bob", "fix 1 plan x", api.ErrSyntax},
		{"bob", "fix 1 plan 1 1000 1 210 0", api.ErrName},
	})
}

// P10.2, P10.13: the fact of a fix is one of whoever made the fact before, or else of who made the fix.
func TestMakersOfFixes(t *testing.T) {
	try(t, house(), diary(), []trial{
		// ann and eve make no fills and no events, whatever they say.
		{"bob", "fix 3 fill in 0 o2 500 0 5", api.ErrState},
		{"bob", "fix 3 fill x", api.ErrState},
		{"bob", "fix 3 kit x", api.ErrState},
		{"bob", "fix 3 kit", api.ErrSyntax},
		{"bob", "fix 4 kit use 3 reg", api.ErrState},
		{"bob", "fix 6 fill in 0 o2 500 0 5", api.ErrState},
		// mel and bob do, and bob where there is no fact.
		{"bob", "fix 9 fill in 0 o2 500 0 5", api.ErrKind},
		{"bob", "fix 7 kit use 3 reg", api.ErrKind},
		{"bob", "fix 10 fill in 0 o2 500 0 5", api.ErrKind},
		{"bob", "fix 10 fill x", api.ErrSyntax},
		{"bob", "fix 99 fill in 0 o2 500 0 5", api.ErrMissing},
		{"bob", "fix 11 kit use 3 reg", api.ErrMissing},
		{"bob", "fix 99 kit x", api.ErrSyntax},
		// ann makes no dive and no record of somebody else, mel no second signature.
		{"bob", "fix 6 dive d1 p eve 1 3600 c1", api.ErrState},
		{"bob", "fix 6 dive d1 p bob 1 3600 c1", api.ErrState},
		{"bob", "fix 8 record d2 0 0 1 0", api.ErrState},
	})
	log := more(diary(), "mel sign d2", "bob sign d1")
	try(t, house(), log, []trial{
		{"bob", "fix 9 sign d2", api.ErrDouble},
		{"bob", "fix 11 sign d1", api.ErrDouble},
		{"bob", "fix 12 sign d2", api.OK},
		// The diver would have signed.
		{"bob", "fix 7 dive d2 q mel 2 0 c1 o2", api.ErrClash},
		{"bob", "fix 7 dive d2 q bob 2 0 c1 o2", api.OK},
		{"bob", "fix 7 dive d2 q ann 2 0 c1 o2", api.OK},
	})
}

// P10.2: a fix names a fact of the same word.
func TestNumbersOfFixes(t *testing.T) {
	try(t, house(), diary(), []trial{
		{"bob", "fix 0 sign d2", api.ErrMissing},
		{"bob", "fix 11 sign d2", api.ErrMissing},
		{"bob", "fix 12 sign d2", api.ErrMissing},
		{"bob", "fix 999 sign d9", api.ErrMissing},
		{"bob", "fix 10 sign d2", api.ErrKind},
		{"bob", "fix 10 plan p 1000 1 210 0", api.ErrKind},
		{"bob", "fix 1 plan p 1000 1 210 0", api.ErrKind},
		{"bob", "fix 1 kit use 0 c9", api.ErrKind},
		{"bob", "fix 5 fill in 0 o2 500 0 5", api.ErrKind},
		{"bob", "fix 6 record d1 0 0 1 0", api.ErrKind},
		{"bob", "fix 8 sign d1", api.ErrKind},
		{"bob", "fix 9 record d9 0 0 1 0", api.ErrKind},
		{"bob", "fix 9 dive d9 p ann 0 0 c9", api.ErrKind},
		{"bob", "fix 4 sign d9", api.ErrKind},
	})
}

// P10.2: a fix is refused with the error of the first fact that is refused behind it.
func TestRefusedFixes(t *testing.T) {
	try(t, house(), diary(), []trial{
		{"bob", "fix 1 fill in 0 c9 210 0 1", api.ErrMissing},
		{"bob", "fix 1 fill in 0 c1 210 0 99999", api.ErrStock},
		{"bob", "fix 1 fill in 0 c1 210 0 789379", api.ErrStock},
		{"bob", "fix 1 fill in 0 c1 210 0 789380", api.OK},
		{"bob", "fix 1 fill in 0 c1 210 0 3600001", api.ErrFull},
		{"bob", "fix 2 fill in 0 o2 500 0 161299", api.ErrStock},
		{"bob", "fix 2 fill in 0 o2 500 0 161300", api.OK},
		{"bob", "fix 2 fill in 2 o2 500 0 1000000", api.ErrOrder},
		{"bob", "fix 2 fill in 1 o2 500 0 1000000", api.OK},
		{"bob", "fix 1 fill in 1 c1 500 0 1000000", api.ErrOrder},
		{"bob", "fix 3 plan x 1000 1 210 0", api.ErrMissing},
		{"bob", "fix 3 plan q 1000 1 210 0", api.ErrExists},
		{"bob", "fix 4 plan p 1000 1 210 0", api.ErrExists},
		{"bob", "fix 3 plan p 1000 2 210 0 210 0", api.ErrShape},
		{"bob", "fix 4 plan q 1013 1 210 0", api.ErrShape},
		{"bob", "fix 4 plan q 1013 2 210 0 0 0", api.OK},
		{"bob", "fix 3 plan p 1000 1 210 0 600000 0 0", api.ErrStock},
		{"bob", "fix 5 kit check 2 c1 test pass", api.ErrOrder},
		{"bob", "fix 5 kit check 1 c1 test fail", api.ErrState},
		{"bob", "fix 5 kit check 1 c1 test", api.ErrSyntax},
		{"bob", "fix 5 kit check 0 c1 test pass", api.OK},
		{"bob", "fix 5 kit use 1 c1", api.ErrState},
		{"bob", "fix 6 dive d2 p ann 1 3600 c1", api.ErrExists},
		{"bob", "fix 6 dive d3 p ann 1 3600 c1", api.ErrMissing},
		{"bob", "fix 6 dive d1 p ann 3 3600 c1", api.ErrOrder},
		{"bob", "fix 6 dive d1 p ann 1 9999 c1", api.OK},
		{"bob", "fix 6 dive d1 p ann 1 9999 o2", api.OK},
		{"bob", "fix 6 dive d1 p ann 1 9999 bank", api.ErrStock},
		{"bob", "fix 7 dive d1 q eve 2 0 c1 o2", api.ErrExists},
		{"bob", "fix 7 dive d3 q eve 2 0 c1 o2", api.OK},
		{"bob", "fix 7 dive d2 q ann 1 3899 c1 o2", api.ErrBusy},
		{"bob", "fix 7 dive d2 q ann 1 3900 c1 o2", api.OK},
		{"bob", "fix 7 dive d2 q eve 2 0 c1 c1", api.ErrDouble},
		{"bob", "fix 8 record d9 0 0 1 0", api.ErrMissing},
		{"bob", "fix 8 record d1 0 0 1 0", api.OK},
		{"bob", "fix 9 sign d9", api.ErrMissing},
		{"bob", "fix 9 sign d1", api.OK},
	})
	// Of two facts that are refused the first one decides: d3 is busy, the second signature is one of its diver.
	log := more(diary()[:9], "eve dive d3 p ann 1 3600 o2", "ann sign d2")
	refused(t, house(), diary()[:9], log[9], api.ErrState)
	log = more(diary()[:9], "bob dive d3 p ann 2 0 o2", "ann sign d2")
	try(t, house(), log, []trial{
		{"bob", "fix 3 plan p 1000 1 210 0 83000 0 0", api.ErrStock},
		{"bob", "fix 7 dive d2 q ann 2 0 c1 o2", api.ErrBusy},
		{"bob", "fix 10 dive d3 p ann 1 3600 o2", api.ErrBusy},
		{"bob", "fix 10 dive d3 p bob 2 0 o2", api.OK},
	})
}

// P10.2: behind a fix all that comes later sees the text that counts, and the last fix of a number counts.
func TestLaterFixes(t *testing.T) {
	h, log := house(), diary()[:9]
	breathed := func(log []api.DeskEntry, want int) {
		t.Helper()
		l, e := desk.Breathed(h, log, "d1")
		expect(t, "Breathed", l, e, []int{want}, api.OK)
	}
	breathed(log, 200000)
	refused(t, h, log, entry("ann dive d3 p ann 1 4199 o2"), api.ErrBusy)
	log = more(log, "bob fix 3 plan p 1000 1 210 0 300 0 0")
	breathed(log, 100000)
	refused(t, h, log, entry("ann dive d3 p ann 1 3899 o2"), api.ErrBusy)
	log = more(log, "bob fix 3 plan p 1000 1 210 0 900 0 0")
	breathed(log, 300000)
	refused(t, h, log, entry("ann dive d3 p ann 1 4499 o2"), api.ErrBusy)
	log = more(log, "bob fix 6 dive d1 p ann 1 5000 c1", "bob fix 3 plan p 1000 1 210 0 300 0 0")
	breathed(log, 100000)
	refused(t, h, log, entry("ann dive d3 p ann 1 5299 o2"), api.ErrBusy)
	log = more(log, "bob fix 6 dive d1 p ann 1 0 c1", "bob dive d3 p ann 2 5299 o2")
	breathed(log, 100000)
	// A fix may be right behind another one only.
	last := entry("bob fix 7 dive d4 q ann 1 200 c1 o2")
	refused(t, h, log, last, api.ErrBusy)
	refused(t, h, more(log, "bob fix 3 plan p 1000 1 210 0 200 0 0"), last, api.OK)
	// A fix of what a fix corrects names the number of the fact, and numbers go on.
	refused(t, h, log, entry("bob fix 13 plan p 1000 1 210 0"), api.ErrKind)
	refused(t, h, log, entry("bob fix 15 dive d3 p ann 2 0 o2"), api.OK)
	_, n, e := desk.Counting(h, log)
	expect(t, "numbers", n, e, []int{1, 2, 3, 4, 5, 6, 7, 8, 9, 15}, api.OK)
}

// P10.12: a fix with the text that counts already changes nothing, and what a fix corrects stays in the log.
func TestSameFix(t *testing.T) {
	someLogs(60, func(c chance, m made) {
		h, log := m.h, m.log
		if len(log) == api.MaxDeskLog {
			return
		}
		before, _, _ := desk.StateOf(h, log)
		for _, f := range m.counting() {
			x := entry("bob fix " + flat(f.number) + " " + f.Text)
			l, e := desk.Accept(h, log, x)
			expect(t, "Accept", l, e, append(slices.Clone(log), x), api.OK)
			s, _, e := desk.StateOf(h, l)
			expect(t, "StateOf", s, e, before, api.OK)
			change, e := desk.Changed(h, log, x)
			expect(t, "Changed", change, e, api.DeskChange{}, api.OK)
		}
	})
}
