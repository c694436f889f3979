package desk_test

import (
	"fmt"
	"strings"
	"testing"

	"shotline/api"
	"shotline/desk"
)

// trial is an entry, and the error with which it is refused behind a log.
type trial struct {
	by, text string
	e        api.Errno
}

func try(t *testing.T, h api.DiveDesk, log []api.DeskEntry, l []trial) {
	t.Helper()
	for _, x := range l {
		refused(t, h, log, api.DeskEntry{By: x.by, Text: x.text}, x.e)
	}
}

// wide is a text of so many bytes.
func wide(text string, size int) string { return text + strings.Repeat("x", size-len(text)) }

// P10.2: the errors of texts of all words, in their order.
func TestTexts(t *testing.T) {
	try(t, house(), diary(), []trial{
		{"zed", "sign d2", api.ErrMissing},
		{"", "sign d2", api.ErrMissing},
		{"Ann", "sign d2", api.ErrMissing},
		{"ann ", "sign d2", api.ErrMissing},
		{"zed", wide("sign ", 401), api.ErrMissing},
		{"zed", "nothing", api.ErrMissing},
		{"ann", wide("sign ", 401), api.ErrLarge},
		{"ann", wide("sign\n", 401), api.ErrLarge},
		{"ann", wide("", 401), api.ErrLarge},
		{"ann", wide("nothing ", 401), api.ErrLarge},
		{"ann", wide("fill ", 401), api.ErrLarge},
		{"ann", wide("sign ", 5000), api.ErrLarge},
		{"bob", wide("fix 9 sign ", 401), api.ErrLarge},
		{"ann", wide("sign ", 400), api.ErrMissing},
		{"bob", wide("fix 9 sign ", 400), api.ErrMissing},
		{"ann", "", api.ErrSyntax},
		{"ann", "sign", api.ErrSyntax},
		{"ann", "dive", api.ErrSyntax},
		{"ann", "fill", api.ErrSyntax},
		{"ann", "fix", api.ErrSyntax},
		{"ann", "nothing", api.ErrSyntax},
		{"ann", "sign\td2", api.ErrSyntax},
		{"ann", "sign\nd2", api.ErrSyntax},
		{"ann", "sign d2\n", api.ErrSyntax},
		{"ann", "sign \nd2", api.ErrSyntax},
		{"ann", "\nsign d2", api.ErrSyntax},
		{"ann", "nothing \n", api.ErrSyntax},
		{"ann", "fill \n", api.ErrSyntax},
		{"ann", " ", api.ErrKind},
		{"ann", " sign d2", api.ErrKind},
		{"ann", "nothing d2", api.ErrKind},
		{"ann", "Sign d2", api.ErrKind},
		{"ann", "signs d2", api.ErrKind},
		{"ann", "sig d2", api.ErrKind},
		{"ann", "\tsign d2", api.ErrKind},
		{"ann", "fixed x", api.ErrKind},
		{"ann", "fill ", api.ErrState},
		{"ann", "fill in 3 bank 210 0 1", api.ErrState},
		{"eve", "kit ", api.ErrState},
		{"eve", "kit use 3 reg", api.ErrState},
		{"ann", "fix ", api.ErrState},
		{"ann", "fix 9 sign d2", api.ErrState},
		{"mel", "fix ", api.ErrState},
		{"mel", "fix 9 sign d2", api.ErrState},
		{"mel", "fix 9 fix 9", api.ErrState},
		{"mel", "fill ", api.ErrSyntax},
		{"mel", "kit ", api.ErrSyntax},
		{"ann", "plan ", api.ErrSyntax},
		{"ann", "dive ", api.ErrSyntax},
		{"ann", "record ", api.ErrSyntax},
		{"ann", "sign ", api.ErrMissing},
		{"bob", "fix ", api.ErrSyntax},
	})
}

// P10.2, P10.13: which roles make what.
func TestWhoMakes(t *testing.T) {
	const ok, state = api.OK, api.ErrState
	log := more(diary()[:7], "bob fill in 2 bank 210 0 1000000")
	for text, wanted := range map[string][4]api.Errno{
		"fill in 3 bank 210 0 1":          {state, state, ok, ok},
		"kit use 3 reg":                   {state, state, ok, ok},
		"plan x 1000 1 210 0":             {ok, ok, ok, ok},
		"dive d3 p eve 3 0 bank":          {state, ok, ok, ok},
		"dive d3 p bob 3 0 bank":          {state, state, ok, ok},
		"record d2 0 0 10 0":              {state, ok, ok, ok},
		"sign d1":                         {api.ErrClash, ok, ok, ok},
		"fix 2 fill in 0 o2 500 0 999999": {state, state, state, ok},
		"fix 4 plan q 1013 2 210 0 0 0":   {state, state, state, ok},
	} {
		for i, by := range []string{"ann", "eve", "mel", "bob"} {
			refused(t, house(), log, api.DeskEntry{By: by, Text: text}, wanted[i])
		}
	}
}

// P10.2: fills and events have the errors of their texts, then those of what they add.
func TestFillsAndEvents(t *testing.T) {
	try(t, house(), diary(), []trial{
		{"mel", "fill in 2 bank 210 0 1", api.OK},
		{"bob", "fill in 2 bank 210 0 1", api.OK},
		{"mel", "fill move 2 o2 bank 838700", api.ErrState},
		{"mel", "fill pump 2 o2 bank 838700", api.OK},
		{"mel", "fill vent 100000 o2 838700", api.OK},
		{"mel", "fill in 2 bank 210 0", api.ErrSyntax},
		{"mel", "fill in 2 bank 210 0 1 ", api.ErrSyntax},
		{"mel", "fill  in 2 bank 210 0 1", api.ErrSyntax},
		{"mel", "fill vent 2 o2 01", api.ErrSyntax},
		{"mel", "fill vent 1 o2 0", api.ErrRange},
		{"mel", "fill vent 100001 o9 1", api.ErrRange},
		{"mel", "fill move 1 o2 o2 1", api.ErrForm},
		{"mel", "fill vent 1 o9 9999999", api.ErrMissing},
		{"mel", "fill vent 1 o2 9999999", api.ErrOrder},
		{"mel", "fill vent 2 o2 838701", api.ErrStock},
		{"mel", "fill in 2 o2 500 0 1161301", api.ErrFull},
		{"mel", "fill in 2 o2 500 0 1161300", api.OK},
		{"mel", "kit check 2 c1 test fail", api.OK},
		{"mel", "kit empty 2 c1", api.OK},
		{"mel", "kit fill 2 k c1", api.ErrState},
		{"bob", "kit use 3 reg", api.OK},
		{"mel", "kit use 3", api.ErrSyntax},
		{"mel", "kit  use 3 reg", api.ErrSyntax},
		{"mel", "kit use 12345678 reg", api.ErrSyntax},
		{"mel", "kit use 100001 rig", api.ErrRange},
		{"mel", "kit use 1 o2", api.ErrMissing},
		{"mel", "kit empty 1 k", api.ErrUnit},
		{"mel", "kit fill 1 c1 c1", api.ErrClash},
		{"mel", "kit use 1 reg", api.ErrOrder},
		{"mel", "kit use 2 reg", api.ErrEarly},
		{"mel", "kit use 2 c1", api.ErrState},
	})
}

// P10.2: plans.
func TestPlans(t *testing.T) {
	try(t, house(), diary(), []trial{
		{"ann", "plan r 1000 1 210 0", api.OK},
		{"mel", "plan P 1000 1 210 0 600 0 0", api.OK},
		{"eve", "plan r 1000 8 1 0 2 0 3 0 4 0 5 0 6 0 7 0 8 0 1000000 30000 7", api.OK},
		{"ann", "plan p", api.ErrSyntax},
		{"ann", "plan p 1000 1 210", api.ErrSyntax},
		{"ann", "plan p 1000 1 210 0 ", api.ErrSyntax},
		{"ann", "plan  p 1000 1 210 0", api.ErrSyntax},
		{"ann", "plan 1 399 1 210 0", api.ErrName},
		{"ann", "plan p 399 1 210 0", api.ErrRange},
		{"ann", "plan p 1000 0", api.ErrShape},
		{"ann", "plan p 1000 1 600 600", api.ErrSum},
		{"ann", "plan p 1000 1 210 0 600 0 1", api.ErrMissing},
		{"ann", "plan p 1000 1 210 0", api.ErrExists},
		{"bob", "plan q 1013 1 210 0", api.ErrExists},
	})
}

// P10.2: the text of a dive, and why it is refused but for its uses and vents, in the order of the errors.
func TestDives(t *testing.T) {
	h := house()
	log := more(diary(), "bob fill in 2 bank 210 0 5000000", "ann plan none 1000 1 210 0", "ann plan three 1000 3 210 0 210 0 210 0")
	try(t, h, log, []trial{
		{"ann", "dive d3 p ann 2 0 bank", api.OK},
		{"ann", "dive d-- none ann 100000 86399 bank", api.OK},
		{"mel", "dive d3 p mel 2 0 bank", api.OK},
		{"mel", "dive d3 p ann 2 0 bank", api.OK},
		{"bob", "dive D1 q bob 2 0 bank o2", api.OK},
		{"bob", "dive d3 three zed 1 0 o2 bank c1", api.ErrMissing},
		{"mel", "dive d3 three mel 3 0 o2 bank c1", api.ErrState},

		{"ann", "dive 1 nop zed -1 0", api.ErrSyntax},
		{"ann", "dive d1", api.ErrSyntax},
		{"ann", "dive d3 p ann 2  0 bank", api.ErrSyntax},
		{"ann", "dive  d3 p ann 2 0 bank", api.ErrSyntax},
		{"ann", "dive 1 nop zed x 86400 c9", api.ErrSyntax},
		{"ann", "dive 1 nop zed 01 86400 c9", api.ErrSyntax},
		{"ann", "dive 1 nop zed 10000000 0 c9", api.ErrSyntax},
		{"ann", "dive 1 nop zed -1 x c9", api.ErrSyntax},
		{"ann", "dive 1 nop zed -1 10000000 c9", api.ErrSyntax},
		{"ann", "dive 1 nop zed -1 +1 c9", api.ErrSyntax},
		{"ann", "dive 1 nop zed -1 -0 c9", api.ErrSyntax},
		{"ann", "dive 1 nop zed -1 86400 c9", api.ErrName},
		{"ann", "dive abcdefghijklm nop zed -1 86400 c9", api.ErrName},
		{"ann", "dive d_1 nop zed 9999999 86400 c9", api.ErrName},
		{"ann", "dive d1 nop zed -1 0 c9", api.ErrRange},
		{"ann", "dive d1 nop zed 100001 0 c9", api.ErrRange},
		{"ann", "dive d1 nop zed 9999999 0 c9", api.ErrRange},
		{"ann", "dive d1 nop zed 0 -1 c9", api.ErrRange},
		{"ann", "dive d1 nop zed 0 86400 c9", api.ErrRange},
		{"ann", "dive d1 nop zed 0 9999999 c9", api.ErrRange},

		{"ann", "dive d1 nop zed 0 0 c9 c9", api.ErrExists},
		{"bob", "dive d2 p ann 2 0 bank", api.ErrExists},
		{"ann", "dive d3 nop eve 0 0 c9 c9", api.ErrMissing},
		{"bob", "dive d3 nop bob 2 0 bank", api.ErrMissing},
		{"ann", "dive d3 p zed 0 0 c9 c9", api.ErrMissing},
		{"bob", "dive d3 p c1 2 0 bank", api.ErrMissing},
		{"ann", "dive d3 p eve 0 0 c9 c9", api.ErrState},
		{"ann", "dive d3 p bob 2 0 bank", api.ErrState},
		{"eve", "dive d3 p ann 2 0 bank", api.ErrState},
		{"ann", "dive d3 p ann 0 0 c9 c9", api.ErrShape},
		{"mel", "dive d3 q ann 0 0 c9", api.ErrShape},
		{"mel", "dive d3 none ann 0 0 bank o2", api.ErrShape},
		{"ann", "dive d3 p ann 2 0 bank ", api.ErrShape},
		{"ann", "dive d3 p ann 0 0 c9", api.ErrMissing},
		{"ann", "dive d3 p ann 0 0 ", api.ErrMissing},
		{"ann", "dive d3 p ann 0 0 reg", api.ErrMissing},
		{"ann", "dive d3 q ann 0 0 c9 c9", api.ErrMissing},
		{"ann", "dive d3 q ann 0 0 o2 c9", api.ErrMissing},
		{"ann", "dive d3 q ann 0 0 o2 o2", api.ErrDouble},
		{"ann", "dive d3 three ann 0 0 o2 o2 c9", api.ErrDouble},
		{"ann", "dive d3 three ann 0 0 c9 o2 o2", api.ErrMissing},
		{"ann", "dive d3 three ann 0 0 o2 bank o2", api.ErrDouble},
		{"ann", "dive d3 p ann 0 0 bank", api.ErrBusy},
		{"ann", "dive d3 p ann 1 3599 bank", api.ErrBusy},
		{"ann", "dive d3 none ann 1 3899 c1", api.ErrBusy},
		{"ann", "dive d3 none ann 1 3899 o2", api.ErrBusy},
		// Nothing of o2 is used or vented.
		{"ann", "dive d3 none ann 1 3900 o2", api.OK},
		{"eve", "dive d3 none eve 1 3899 o2", api.ErrBusy},
		{"eve", "dive d3 none eve 2 1079 o2", api.ErrBusy},
		{"eve", "dive d3 none eve 2 1080 o2", api.OK},
		{"mel", "dive d3 none mel 0 0 o2", api.OK},
	})
}

// P10.2: a day has 86400 seconds, and a dive may end on the next one, or on a later one.
func TestBusyDays(t *testing.T) {
	log := more(diary(), "mel plan none 1000 1 210 0", "mel plan long 1000 1 210 0 1 0 0 1 0 0 200000 0 0", "mel fill in 2 bank 210 0 15000000")
	h := house()
	h.Rules.Breath = 1
	try(t, h, more(log, "mel dive d3 p mel 2 86399 bank"), []trial{
		{"mel", "dive d4 none mel 2 86399 o2", api.ErrBusy},
		{"mel", "dive d4 none mel 3 298 o2", api.ErrBusy},
		{"mel", "dive d4 none mel 3 299 o2", api.OK},
		{"bob", "dive d4 none bob 3 298 o2", api.OK},
	})
	try(t, h, more(log, "mel dive d3 long mel 2 7 bank"), []trial{
		// 200009 is two days, and 27209 seconds.
		{"mel", "dive d4 none mel 4 27208 o2", api.ErrBusy},
		{"mel", "dive d4 none mel 4 27209 o2", api.OK},
	})
}

// P10.2: the uses and the vents of a dive, vessel by vessel, and what refuses them.
func TestPartsOfDives(t *testing.T) {
	h := house()
	log := more(diary()[:6], "ann plan two 1000 2 210 0 210 0 600 0 0 600 0 1", "ann plan one 1000 2 210 0 210 0 600 0 1", "bob plan deep 1000 1 210 0 1000000 30000 0", "bob plan none 1000 2 210 0 500 0")
	try(t, h, log, []trial{
		// c1 was used once, is used once more, and may not be used then.
		{"ann", "dive d3 two ann 2 0 c1 o2", api.OK},
		{"ann", "dive d3 two ann 2 0 o2 c1", api.OK},
		{"ann", "dive d3 two ann 1002 0 c1 o2", api.ErrState},
		{"ann", "dive d3 two ann 1001 0 c1 o2", api.OK},
		// The bank is empty, but nothing of its gas is breathed.
		{"ann", "dive d3 two ann 1002 0 c1 bank", api.ErrState},
		{"ann", "dive d3 two ann 1002 0 bank c1", api.ErrStock},
		{"ann", "dive d3 two ann 1001 0 c1 bank", api.ErrStock},
		{"ann", "dive d3 one ann 2 0 bank o2", api.OK},
		{"ann", "dive d3 one ann 1002 0 bank c1", api.ErrState},
		{"ann", "dive d3 one ann 2 0 o2 bank", api.ErrStock},
		{"ann", "dive d3 p ann 1002 0 c1", api.ErrState},
		// Uses come ahead of vents of the same vessel.
		{"bob", "dive d3 p bob 0 0 c1", api.ErrOrder},
		{"bob", "dive d3 p bob 0 0 o2", api.ErrOrder},
		{"bob", "dive d3 p bob 0 0 bank", api.ErrOrder},
		{"bob", "dive d3 none bob 0 0 o2 bank", api.OK},
		{"bob", "dive d3 none bob 0 0 o2 c1", api.ErrOrder},
		{"bob", "dive d3 none bob 1 0 o2 c1", api.OK},
		{"bob", "dive d3 deep bob 0 0 o2", api.ErrRange},
		{"bob", "dive d3 deep bob 0 0 c1", api.ErrOrder},
		{"bob", "dive d3 deep bob 1 0 c1", api.ErrRange},
	})
	// The dives of two people with one vessel at a time.
	try(t, h, log, []trial{{"eve", "dive d3 p eve 1 3600 c1", api.OK}, {"eve", "dive d3 p eve 1 3599 c1", api.OK}})
	log = more(log, "eve dive d3 p eve 1 3600 c1")
	try(t, h, log, []trial{{"bob", "dive d4 p bob 1 3600 c1", api.ErrState}, {"bob", "dive d4 p bob 1 3600 o2", api.OK}})
	// What is refused leaves nothing behind: the first vessel is used once only.
	d, _ := desk.New(h)
	for _, x := range log[:len(log)-1] {
		d.Enter(x)
	}
	for range 5 {
		n, e := d.Enter(entry("ann dive d3 two ann 2 0 c1 bank"))
		refuse(t, "a dive", n, e, api.ErrStock)
	}
	n, e := d.Enter(entry("ann dive d3 two ann 2 0 c1 o2"))
	expect(t, "a dive", n, e, len(log), api.OK)
}

// P10.2: the fills and the events of all dives together are at most 200 each.
func TestManyParts(t *testing.T) {
	h := small()
	h.Vessels = nil
	gases, legs, vessels := "", "", ""
	var log []api.DeskEntry
	for i := range 8 {
		name := fmt.Sprint("v", i)
		h.Vessels = append(h.Vessels, api.MixVessel{Name: name, Volume: 10000, Most: 300000})
		h.Kit.Items = append(h.Kit.Items, api.KitItem{Name: name, Kind: api.KitCylinder})
		gases, legs, vessels = gases+" 210 0", legs+fmt.Sprint(" 1 0 ", i), vessels+" "+name
		log = more(log, "bob fill in 0 "+name+" 210 0 3000000")
	}
	log = more(log, "bob plan p 1000 8"+gases+legs, "bob plan none 1000 8"+gases)
	dive := func(plan string, i int) string {
		return fmt.Sprint("ann dive d", i, " ", plan, " ann 1 ", 10*i, vessels)
	}
	for i := range 24 {
		log = more(log, dive("p", i))
	}
	s, _, e := desk.StateOf(h, log)
	expect(t, "fills and events", []int{len(s.Fills), len(s.Events)}, e, []int{200, 192}, api.OK)
	refused(t, h, log, entry(dive("p", 24)), api.ErrLarge)
	refused(t, h, log, entry("bob fill vent 1 v0 1"), api.ErrLarge)
	refused(t, h, log, entry("bob kit use 1 v0"), api.OK)
	log = more(log, dive("none", 24))
	refused(t, h, log, entry(dive("none", 25)), api.ErrLarge)
	refused(t, h, log, entry("bob kit use 1 v0"), api.ErrLarge)
	refused(t, h, log, entry("bob fix 10 plan none 1000 8"+gases+legs), api.ErrLarge)
	refused(t, h, log, entry("bob fix 9 plan p 1000 8"+gases+legs[6:]), api.OK)
}

// P10.2: an item with the name of a vessel is that vessel, of whatever kind it is; without one there is no use.
func TestUsesOfDives(t *testing.T) {
	for kind := range 5 {
		h := house()
		h.Kit.Items = append(h.Kit.Items, api.KitItem{Name: "o2", Kind: kind, Bought: 4})
		wanted, uses := api.ErrEarly, 1
		if kind == 0 {
			h, wanted, uses = house(), api.OK, 0
		}
		h.Kit.Rules = append(h.Kit.Rules, api.KitRule{Name: "once", Kind: max(kind, 1), Uses: 1})
		log := entries("bob fill in 0 o2 210 0 1000000", "bob plan p 1000 1 210 0 600 0 0")
		refused(t, h, log, entry("ann dive d1 p ann 3 0 o2"), wanted)
		log = more(log, "ann dive d1 p ann 4 0 o2")
		s, _, e := desk.StateOf(h, log)
		expect(t, "uses", len(s.Events), e, uses, api.OK)
		if kind > 0 {
			refused(t, h, log, entry("ann dive d2 p ann 5 0 o2"), api.ErrState)
		}
	}
}

// P10.2: recorded profiles.
func TestRecords(t *testing.T) {
	try(t, house(), diary(), []trial{
		{"eve", "record d2 0 0 1080 600", api.OK},
		{"eve", "record d2 5 7 6 8", api.OK},
		{"mel", "record d2 0 0 1080 600", api.OK},
		{"bob", "record d2 0 0 1080 600", api.OK},
		{"ann", "record d9", api.ErrSyntax},
		{"ann", "record d9 ", api.ErrSyntax},
		{"ann", "record  d2 0 0 1 0", api.ErrSyntax},
		{"ann", "record d9 0 0 1", api.ErrSyntax},
		{"ann", "record d9 0 0", api.ErrShape},
		{"ann", "record d9 0 0 0 0", api.ErrOrder},
		{"ann", "record d9 0 0 1 30001", api.ErrRange},
		{"ann", "record d9 0 0 1 0", api.ErrMissing},
		{"ann", "record  0 0 1 0", api.ErrMissing},
		{"ann", "record d2 0 0 1 0", api.ErrState},
		{"eve", "record d1 0 0 1 0", api.ErrState},
		{"ann", "record d1 0 0 1 0", api.ErrDouble},
		{"bob", "record d1 0 0 1 0", api.ErrDouble},
	})
}

// P10.2, P10.13: signatures.
func TestSigns(t *testing.T) {
	try(t, house(), diary(), []trial{
		{"ann", "sign d2", api.OK},
		{"mel", "sign d2", api.OK},
		{"bob", "sign d2", api.OK},
		{"eve", "sign d1", api.OK},
		{"bob", "sign d1", api.OK},
		{"bob", "sign d9", api.ErrMissing},
		{"bob", "sign d1 ", api.ErrMissing},
		{"bob", "sign  d1", api.ErrMissing},
		{"bob", "sign d1 d2", api.ErrMissing},
		{"bob", "sign D1", api.ErrMissing},
		{"ann", "sign d1", api.ErrClash},
		{"eve", "sign d2", api.ErrClash},
		{"mel", "sign d1", api.ErrDouble},
	})
	// A master signs no own dive, too.
	log := more(diary(), "bob plan none 1000 1 210 0", "bob dive d3 none bob 2 0 o2")
	try(t, house(), log, []trial{{"bob", "sign d3", api.ErrClash}, {"mel", "sign d3", api.OK}, {"ann", "sign d3", api.OK}})
}

// P10.2: the entries of the examples.
func TestExampleEntries(t *testing.T) {
	try(t, small(), example(), []trial{
		{"ann", "sign d1", api.ErrClash},
		{"bob", "sign d1", api.OK},
		{"ann", "dive d2 p ann 1 4000 c1", api.ErrBusy},
		{"ann", "dive d2 p ann 1 4199 c1", api.ErrBusy},
		{"ann", "dive d2 p ann 1 4200 c1", api.OK},
		{"bob", "fix 2 plan p 1000 1 210 0 300 0 0", api.OK},
		{"ann", "fix 2 plan p 1000 1 210 0 300 0 0", api.ErrState},
		{"bob", "fix 1 plan q 1000 1 210 0", api.ErrKind},
		{"bob", "fix 2 fill in 0 c1 210 0 5", api.ErrState},
		{"ann", "record d1 0 0 600 0", api.OK},
		{"ann", "fill vent 1 c1 5", api.ErrState},
		{"ann", "dive", api.ErrSyntax},
		// The vent of the dive was on the day 1.
		{"bob", "fill in 0 c1 210 0 5", api.ErrOrder},
		{"bob", "dive d2 p bob 0 0 c1", api.ErrOrder},
	})
}
