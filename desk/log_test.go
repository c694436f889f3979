package desk_test

import (
	"slices"
	"strings"
	"testing"

	"shotline/api"
	"shotline/desk"
)

// P10.2: what is accepted behind a log by chance, and with which error the rest is refused.
func TestAcceptByModel(t *testing.T) {
	counts := map[api.Errno]int{}
	someLogs(150, func(c chance, m made) {
		h, log := m.h, m.log
		for n, l := range m.tried {
			for _, x := range l {
				e := model{h, log[:n]}.errorOf(x)
				counts[e]++
				refused(t, h, log[:n], x, e)
			}
		}
	})
	for _, e := range []api.Errno{api.OK, api.ErrRange, api.ErrForm, api.ErrExists, api.ErrMissing, api.ErrSyntax, api.ErrOrder, api.ErrShape, api.ErrClash, api.ErrKind, api.ErrBusy, api.ErrEarly, api.ErrStock, api.ErrState, api.ErrDouble} {
		if counts[e] < 10 {
			t.Errorf("the error %d comes %d times only", e, counts[e])
		}
	}
}

// P10.2, P10.12: the facts that count, and what they come to. What a fix corrects stays in the log.
func TestStateByModel(t *testing.T) {
	fixes := 0
	someLogs(150, func(c chance, m made) {
		h, log := m.h, m.log
		s, n, e := desk.StateOf(h, log)
		expect(t, "StateOf", s, e, m.stateOf(), api.OK)
		expect(t, "entries", n, e, len(log), api.OK)
		var facts []api.DeskEntry
		var numbers []int
		for _, f := range m.counting() {
			facts, numbers = append(facts, f.DeskEntry), append(numbers, f.number)
			if f.DeskEntry != log[f.number-1] {
				fixes++
			}
		}
		l, k, e := desk.Counting(h, log)
		expect(t, "Counting", l, e, facts, api.OK)
		expect(t, "the numbers of Counting", k, e, numbers, api.OK)
	})
	if fixes < 100 {
		t.Errorf("%d facts count with another text only", fixes)
	}
}

// P10.2: the example's log, and the state behind it.
func TestState(t *testing.T) {
	log := more(example(), "ann record d1 0 0 600 0", "bob sign d1")
	s, n, e := desk.StateOf(small(), log)
	expect(t, "StateOf", s, e, api.DeskState{
		Fills: []api.MixFill{
			{Kind: api.MixIn, To: "c1", Gas: api.Gas{Oxygen: 210}, Amount: 2400000},
			{Kind: api.MixVent, Day: 1, From: "c1", Amount: 200000},
		},
		Plans:   []api.DivePlan{{Name: "p", Surface: 1000, Gases: []api.Gas{{Oxygen: 210}}, Legs: []api.DiveLeg{{Seconds: 600}}}},
		Dives:   []api.DeskDive{{Name: "d1", Plan: "p", Diver: "ann", Day: 1, Second: 3600, Vessels: []string{"c1"}}},
		Records: []api.DeskRecord{{Dive: "d1", Points: []api.DivePoint{{}, {Second: 600}}}},
		Signs:   []api.DeskSign{{Dive: "d1", By: "bob"}},
	}, api.OK)
	expect(t, "entries", n, e, 5, api.OK)
	s, n, e = desk.StateOf(house(), diary())
	expect(t, "fills", s.Fills[2:], e, []api.MixFill{
		{Kind: api.MixVent, Day: 1, From: "c1", Amount: 100000},
		{Kind: api.MixVent, Day: 2, From: "c1", Amount: 689380},
		{Kind: api.MixVent, Day: 2, From: "o2", Amount: 161300},
	}, api.OK)
	// The vessel o2 is no item.
	expect(t, "events", s.Events, e, []api.KitEvent{
		{Kind: api.KitCheck, Day: 1, Item: "c1", Rule: "test", Passed: true},
		{Kind: api.KitUse, Day: 1, Item: "c1"},
		{Kind: api.KitUse, Day: 2, Item: "c1"},
	}, api.OK)
	expect(t, "entries", n, e, 10, api.OK)
	s, n, e = desk.StateOf(small(), nil)
	expect(t, "StateOf of no entries", s, e, api.DeskState{}, api.OK)
	expect(t, "no entries", n, e, 0, api.OK)
}

// P10.2: the facts that count have who made them, and the text of the last fix.
func TestCounting(t *testing.T) {
	log := more(diary(), "bob fix 3 plan p 1000 1 210 0 200 0 0", "mel sign d2", "bob fix 12 sign d2", "bob fix 9 sign d1")
	want := diary()[:9]
	want[2].Text = "plan p 1000 1 210 0 200 0 0"
	want = append(want, entry("mel sign d2"))
	l, n, e := desk.Counting(house(), log)
	expect(t, "Counting", l, e, want, api.OK)
	expect(t, "the numbers", n, e, []int{1, 2, 3, 4, 5, 6, 7, 8, 9, 12}, api.OK)
	l, n, e = desk.Counting(house(), nil)
	expect(t, "Counting of no entries", l, e, []api.DeskEntry(nil), api.OK)
	expect(t, "no numbers", n, e, []int(nil), api.OK)
}

// P10.2: how many entries a log may have, and how many stand before the first one that is refused.
func TestErrorsOfLogs(t *testing.T) {
	h := house()
	l, e := desk.Accept(h, full(59), entry("bob plan p 1000 1 210 0"))
	expect(t, "60 entries", len(l), e, 60, api.OK)
	l, e = desk.Accept(h, full(60), entry("nobody nothing"))
	refuse(t, "one more than 60", l, e, api.ErrFull)
	l, e = desk.Accept(h, full(61), entry("bob plan p 1000 1 210 0"))
	refuse(t, "61 entries", l, e, api.ErrLarge)
	for n, wanted := range map[int]api.Errno{0: api.OK, 1: api.OK, 59: api.OK, 60: api.OK, 61: api.ErrLarge, 200: api.ErrLarge} {
		s, number, e := desk.StateOf(h, full(n))
		if wanted != api.OK {
			refuse(t, "a long log", s, e, wanted)
			expect(t, "entries of a long log", number, e, 0, wanted)
			continue
		}
		expect(t, "plans", len(s.Plans), e, n, api.OK)
		expect(t, "entries", number, e, n, api.OK)
	}
	for place := range len(diary()) + 1 {
		log := slices.Insert(diary(), place, entry("bob sign d9"))
		log = more(log, "nobody nothing")
		s, n, e := desk.StateOf(h, log)
		refuse(t, "a wrong entry", s, e, api.ErrMissing)
		expect(t, "the entries before it", n, e, place, api.ErrMissing)
		l, e := desk.Accept(h, log, entry("bob plan x 1000 1 210 0"))
		refuse(t, "Accept behind a wrong entry", l, e, api.ErrMissing)
	}
	h.Table = nil
	s, n, e := desk.StateOf(h, append(full(60), entry("x y")))
	refuse(t, "a wrong desk", s, e, api.ErrShape)
	expect(t, "entries of a wrong desk", n, e, 0, api.ErrShape)
	// A long log is not looked at.
	_, n, e = desk.StateOf(house(), slices.Insert(full(60), 30, entry("x y")))
	expect(t, "entries of a long wrong log", n, e, 0, api.ErrLarge)
}

// P10.11: entries come to the same state one by one, and all together.
func TestReplayed(t *testing.T) {
	someLogs(100, func(c chance, m made) {
		h, log := m.h, m.log
		d, e := desk.New(h)
		if e != api.OK {
			t.Fatal(e)
		}
		for n := range len(log) + 1 {
			for _, x := range m.tried[n] {
				wanted := model{h, log[:n]}.errorOf(x)
				if wanted == api.OK {
					continue
				}
				number, e := d.Enter(x)
				refuse(t, "Enter", number, e, wanted)
			}
			s, _, e := desk.StateOf(h, log[:n])
			expect(t, "State", d.State(), e, s, api.OK)
			expect(t, "Log", d.Log(), e, log[:n:n], api.OK)
			if n < len(log) {
				number, e := d.Enter(log[n])
				expect(t, "Enter", number, e, n+1, api.OK)
			}
		}
	})
}

// P10.13: what divers do not make, and that nobody signs a dive of their own.
func TestRoles(t *testing.T) {
	roles := map[string]int{}
	for _, p := range house().People {
		roles[p.Name] = p.Role
	}
	divers := 0
	someLogs(150, func(c chance, m made) {
		h, log := m.h, m.log
		l, _, _ := desk.Counting(h, log)
		s, _, _ := desk.StateOf(h, log)
		for _, x := range slices.Concat(log, l) {
			word, rest, _ := strings.Cut(x.Text, " ")
			words := strings.Split(rest, " ")
			if roles[x.By] == api.RoleDiver {
				divers++
				if word == "fill" || word == "kit" || word == "fix" || word == "dive" && words[2] != x.By {
					t.Errorf("%s: %s is a diver", x.Text, x.By)
				}
			}
			if roles[x.By] != api.RoleMaster && word == "fix" {
				t.Errorf("%s: %s is no master", x.Text, x.By)
			}
		}
		for _, x := range s.Signs {
			if d, _ := diveOf(s, x.Dive); d.Diver == x.By {
				t.Errorf("%s signs the own dive %s", x.By, x.Dive)
			}
		}
	})
	if divers < 500 {
		t.Errorf("%d entries by divers only", divers)
	}
}
