package desk_test

import (
	"fmt"
	"slices"
	"strings"
	"testing"

	"shotline/api"
	"shotline/desk"
)

// P1: no function panics, whatever its numbers, names and texts, and beside an error each other result is its zero value.
func TestEveryNumber(t *testing.T) {
	numbers := func(a *asked) []*int {
		v, i, k, p, r, c := &a.h.Vessels[0], &a.h.Kit.Items[1], &a.h.Kit.Rules[0], &a.h.People[1], &a.h.Rules, &a.h.Table[1]
		return []*int{&v.Volume, &v.Most, &i.Kind, &i.Bought, &k.Kind, &k.Days, &k.Uses, &p.Role, &r.Table[0].From, &r.Table[0].Rate, &r.Oxygen.Least, &r.Oxygen.Most,
			&r.Narcotic, &r.Dense, &r.Breath, &r.Emergency, &r.Pause, &r.Ascent, &c.Nitrogen, &c.Helium, &c.Base, &c.Slope, &a.at.Second, &a.number}
	}
	for i := range numbers(new(question())) {
		for _, n := range extremes {
			a := question()
			*numbers(&a)[i] = n
			everyFunction(t, a)
		}
	}
	c := newChance(20)
	for range 1000 {
		a := question()
		for range 3 {
			*numbers(&a)[c.Intn(len(numbers(&a)))] = extremes[c.Intn(len(extremes))]
		}
		everyFunction(t, a)
	}
}

// someTexts are texts of all kinds.
func someTexts() []string {
	texts := []string{"", " ", "  ", "\n", "\xff", "d1", "ann", "c1", "bob", "fix", "fix ", "fix 3", "fix 3 ", "fix 3 plan", "fix 3 fix 3 ", "fix 99 sign d1", "fix -1 sign d1", "fill ", "kit ", "plan ", "dive ", "dive      ", "record ", "record  ", "sign ", "do ", "do  ", "do bob", "do bob ", "held ", "breathed ", strings.Repeat("x ", 300), strings.Repeat("9", 400)}
	for _, x := range diary() {
		texts = append(texts, x.By, x.Text, "do "+x.By+" "+x.Text)
	}
	return texts
}

// P1: the same for texts.
func TestEveryText(t *testing.T) {
	texts := func(a *asked) []*string {
		return []*string{&a.h.Vessels[0].Name, &a.h.Kit.Items[1].Name, &a.h.Kit.Rules[0].Name, &a.h.People[0].Name, &a.log[2].By, &a.log[2].Text, &a.log[9].Text, &a.x.By, &a.x.Text, &a.dive, &a.diver, &a.at.Dive, &a.line}
	}
	for i := range texts(new(question())) {
		for _, s := range someTexts() {
			a := question()
			*texts(&a)[i] = s
			everyFunction(t, a)
		}
	}
	c := newChance(21)
	journal := journalOf(diary())
	for range 3000 {
		i := c.Intn(len(journal))
		j := c.Intn(len(journal))
		text := journal[min(i, j):max(i, j)]
		log, n := desk.Recover(text)
		if n > len(text) || journalOf(log) != text[:n] {
			t.Errorf("Recover of %q: %v, %d", text, log, n)
		}
	}
}

// P1: no function panics, however long its lists are.
func TestEveryLength(t *testing.T) {
	everyFunction(t, asked{})
	lists := map[string]func(a *asked, n int){
		"vessels": func(a *asked, n int) { a.h.Vessels = make([]api.MixVessel, n) },
		"named": func(a *asked, n int) {
			a.h.Vessels = nil
			for i := range n {
				a.h.Vessels = append(a.h.Vessels, api.MixVessel{Name: fmt.Sprint("v", i), Volume: 1, Most: 1})
			}
		},
		"items":   func(a *asked, n int) { a.h.Kit.Items = make([]api.KitItem, n) },
		"rules":   func(a *asked, n int) { a.h.Kit.Rules = make([]api.KitRule, n) },
		"people":  func(a *asked, n int) { a.h.People = make([]api.DeskPerson, n) },
		"rows":    func(a *asked, n int) { a.h.Rules.Table = make([]api.OxygenRow, n) },
		"table":   func(a *asked, n int) { a.h.Table = make([]api.Compartment, n) },
		"log":     func(a *asked, n int) { a.log = make([]api.DeskEntry, n) },
		"diary":   func(a *asked, n int) { a.log = diary()[:min(n, 10)] },
		"plans":   func(a *asked, n int) { a.log = full(n) },
		"entries": func(a *asked, n int) { a.log = slices.Repeat(diary(), n) },
	}
	for _, first := range lists {
		for _, second := range lists {
			for _, n := range []int{0, 1, 2, 10, 17, 21, 31, 60, 61} {
				for _, m := range []int{0, 1, 3, 60, 61} {
					a := question()
					first(&a, n)
					second(&a, m)
					everyFunction(t, a)
				}
			}
		}
	}
}

// everyFunction calls each function.
func everyFunction(t *testing.T, a asked) {
	t.Helper()
	for name, call := range functions() {
		x, e := call(a)
		if e != api.OK && !isZero(x) && !tellsNumber(name) {
			t.Errorf("%s of %+v: %v, error %d", name, a, x, e)
		}
	}
	d, e := desk.New(a.h)
	if (d == nil) != (e != api.OK) {
		t.Errorf("New of %+v: %v, error %d", a.h, d, e)
	}
	n, _ := d.Enter(a.x)
	if n != len(d.Log()) {
		t.Errorf("Enter of %+v: %d, and %d entries", a.x, n, len(d.Log()))
	}
}

// R4: a nil list is an empty one.
func TestEmptyLists(t *testing.T) {
	a, b := asked{h: small()}, asked{h: small(), log: []api.DeskEntry{}}
	for range 2 {
		for name, call := range functions() {
			x, e := call(a)
			y, f := call(b)
			expect(t, name, flat(x), e, flat(y), f)
		}
		a, b = question(), question()
		a.h.Vessels, b.h.Vessels = nil, []api.MixVessel{}
		a.h.Kit, b.h.Kit = api.KitSetup{}, api.KitSetup{Items: []api.KitItem{}, Rules: []api.KitRule{}}
		a.h.Rules.Table, b.h.Rules.Table = nil, []api.OxygenRow{}
		a.log, b.log = full(3), full(3)
	}
}

// padded is a question with room behind each list.
func padded(a asked) asked {
	a.h.Vessels, a.h.People, a.h.Table = roomy(a.h.Vessels), roomy(a.h.People), roomy(a.h.Table)
	a.h.Kit.Items, a.h.Kit.Rules, a.h.Rules.Table = roomy(a.h.Kit.Items), roomy(a.h.Kit.Rules), roomy(a.h.Rules.Table)
	a.log = roomy(a.log)
	return a
}

// all is a question with what stands behind its lists.
func (a asked) all() string {
	h := a.h
	return flat(a) + flat(h.Vessels[:cap(h.Vessels)]) + flat(h.Kit.Items[:cap(h.Kit.Items)]) + flat(h.Kit.Rules[:cap(h.Kit.Rules)]) + flat(h.People[:cap(h.People)]) +
		flat(h.Rules.Table[:cap(h.Rules.Table)]) + flat(h.Table[:cap(h.Table)]) + flat(a.log[:cap(a.log)])
}

// R6, R7: no argument is changed, and results come again.
func TestArgumentsStay(t *testing.T) {
	someLogs(30, func(c chance, m made) {
		a := padded(question())
		if c.Intn(3) > 0 {
			a.h, a.log, a.x = m.h, m.log, c.entry(m.log, m.stateOf(), 7)
			a.dive, a.diver, a.number, a.line = c.dived(m.stateOf()), c.one("ann", "eve"), c.from(1, 10), "do "+a.x.By+" "+a.x.Text
			a.at = api.DeskMoment{Dive: a.dive, Second: c.Intn(600)}
			a = padded(a)
		}
		before := a.all()
		results := map[string]string{}
		for range 3 {
			for name, call := range functions() {
				x, e := call(a)
				again := flat(x) + flat(e)
				if first, ok := results[name]; ok && first != again || a.all() != before {
					t.Fatalf("%s of %s: %s, then %s; now it is %+v", name, before, first, again, a)
				}
				results[name] = again
			}
		}
	})
}

// R6: a list that is returned may be changed, and nothing else changes.
func TestResultsAreNew(t *testing.T) {
	for name, call := range functions() {
		a := padded(question())
		x, _ := call(a)
		before := flat(x)
		spoil(x)
		if y, _ := call(a); flat(y) != before || a.all() != padded(question()).all() {
			t.Errorf("%s: %v, then %s; now it is asked with %+v", name, y, before, a)
		}
	}
	// The log of the console is new, whether or not it is longer.
	for _, line := range []string{"seal", "x", "do bob", "do bob sign", "do bob sign d1", "held c9"} {
		log := roomy(diary())
		l, _ := desk.Do(house(), log, line)
		spoil(l)
		expect(t, "the log", log[:cap(log)], api.OK, roomy(diary())[:cap(log)], api.OK)
	}
	l, _ := desk.Recover(journalOf(diary()))
	spoil(l)
	l, _ = desk.Recover(journalOf(diary()))
	expect(t, "Recover", l, api.OK, diary(), api.OK)
}

// P10.9, R6: a desk shares nothing with what it was made of, and what it returns.
func TestDesksAreAlone(t *testing.T) {
	h := house()
	d, _ := desk.New(h)
	clear(h.Vessels)
	clear(h.Kit.Items)
	clear(h.Kit.Rules)
	clear(h.People)
	h.Rules.Table[0].From = -1
	clear(h.Table)
	for i, x := range diary() {
		n, e := d.Enter(x)
		expect(t, "Enter", n, e, i+1, api.OK)
		spoil(d.Log())
		spoil(d.State())
	}
	s, _, e := desk.StateOf(house(), diary())
	expect(t, "State", d.State(), e, s, api.OK)
	expect(t, "Log", d.Log(), api.OK, diary(), api.OK)
	// What is added to a log that is returned is no entry, and the next log is another one.
	first := d.Log()
	_ = append(first[:5], api.DeskEntry{})
	expect(t, "Log", d.Log(), api.OK, diary(), api.OK)
	n, e := d.Enter(entry("eve sign d1"))
	expect(t, "Enter", n, e, 11, api.OK)
	// No two lists of one state share memory: what is added to one is not in another one.
	s = d.State()
	for i := range s.Plans {
		s.Plans[i].Gases = append(s.Plans[i].Gases, api.Gas{})
		s.Plans[i].Legs = append(s.Plans[i].Legs, api.DiveLeg{})
	}
	for i := range s.Dives {
		s.Dives[i].Vessels = append(s.Dives[i].Vessels, "x")
	}
	expect(t, "vessels", []int{len(s.Dives[0].Vessels), len(s.Dives[1].Vessels)}, api.OK, []int{2, 3}, api.OK)
	expect(t, "vessels", s.Dives[1].Vessels, api.OK, []string{"c1", "o2", "x"}, api.OK)
}

// spoil changes the elements of a list, or of the lists of a result.
func spoil(x any) {
	switch l := x.(type) {
	case []int:
		clear(l)
	case []string:
		clear(l)
	case []api.MixContent:
		clear(l)
	case []api.DeskEntry:
		clear(l)
	case []api.TissueLoad:
		clear(l)
	case api.DeskChange:
		clear(l.Facts)
		clear(l.Vessels)
		clear(l.Divers)
	case api.DeskState:
		for _, p := range l.Plans {
			clear(p.Gases)
			clear(p.Legs)
		}
		for _, d := range l.Dives {
			clear(d.Vessels)
		}
		for _, r := range l.Records {
			clear(r.Points)
		}
		clear(l.Fills)
		clear(l.Events)
		clear(l.Plans)
		clear(l.Dives)
		clear(l.Records)
		clear(l.Signs)
	}
}
