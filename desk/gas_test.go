package desk_test

import (
	"testing"

	"shotline/api"
	"shotline/desk"
	"shotline/exposure"
)

// P10.3: the gas of the examples, ahead of the dive and behind it.
func TestExampleGas(t *testing.T) {
	l, e := desk.Contents(small(), example()[:2])
	expect(t, "Contents", l, e, []api.MixContent{content(504000, 0, 1896000)}, api.OK)
	l, e = desk.Contents(small(), example())
	expect(t, "Contents", l, e, []api.MixContent{content(462000, 0, 1738000)}, api.OK)
	g, e := desk.Booked(small(), example())
	expect(t, "Booked", g, e, api.DeskGas{In: content(504000, 0, 1896000), Breathed: content(42000, 0, 158000), Held: content(462000, 0, 1738000)}, api.OK)
	n, e := desk.Breathed(small(), example(), "d1")
	expect(t, "Breathed", n, e, []int{200000}, api.OK)
	for number, want := range map[int]api.MixContent{1: content(504000, 0, 1896000), 2: {}, 3: content(42000, 0, 158000)} {
		c, e := desk.Moves(small(), example(), number)
		expect(t, "Moves", c, e, want, api.OK)
	}
}

// P10.3: vents of the log are not breathed, and what is moved stays.
func TestBooked(t *testing.T) {
	log := more(example(), "bob fill vent 1 c1 550000", "bob fill in 2 c1 0 1000 1650000", "bob fill vent 3 c1 330000", "ann dive d2 p ann 3 0 c1")
	g, e := desk.Booked(small(), log)
	expect(t, "Booked", g, e, api.DeskGas{
		In:       content(504000, 1650000, 1896000),
		Vented:   added(content(115500, 0, 434500), content(34650, 165000, 130350)),
		Breathed: added(content(42000, 0, 158000), content(21000, 100000, 79000)),
		Held:     content(290850, 1385000, 1094150),
	}, api.OK)
	for number, want := range map[int]api.MixContent{4: content(115500, 0, 434500), 5: content(0, 1650000, 0), 6: content(34650, 165000, 130350), 7: content(21000, 100000, 79000)} {
		c, e := desk.Moves(small(), log, number)
		expect(t, "Moves", c, e, want, api.OK)
	}
	g, e = desk.Booked(house(), nil)
	expect(t, "Booked of no entries", g, e, api.DeskGas{}, api.OK)
}

// P10.3: what each kind of facts moves, and that of fixes nothing is told.
func TestMoves(t *testing.T) {
	h := house()
	log := more(diary(), "bob fill in 2 bank 210 0 5000000", "mel fill move 2 bank o2 100000", "mel fill pump 2 o2 bank 93870", "mel fill vent 2 o2 10", "ann record d2 0 0 1 0")[:14]
	for number, want := range map[int]api.MixContent{
		1:  content(504000, 0, 1896000),
		2:  content(500000, 0, 500000),
		3:  {},
		4:  {},
		5:  {},
		6:  content(21000, 0, 79000),
		7:  content(144770+80650, 0, 544610+80650),
		8:  {},
		9:  {},
		11: content(1050000, 0, 3950000),
		12: content(21000, 0, 79000),
		// o2 holds 440350 oxygen, 498350 nitrogen.
		13: content(44035, 0, 49835),
		14: content(5, 0, 5),
	} {
		c, e := desk.Moves(h, log, number)
		expect(t, "Moves of "+flat(number), c, e, want, api.OK)
	}
	for number, wanted := range map[int]api.Errno{-1: api.ErrMissing, 0: api.ErrMissing, 10: api.ErrKind, 15: api.ErrMissing, 60: api.ErrMissing, 61: api.ErrMissing} {
		c, e := desk.Moves(h, log, number)
		refuse(t, "Moves of "+flat(number), c, e, wanted)
	}
	c, e := desk.Moves(h, nil, 0)
	refuse(t, "Moves of no entry", c, e, api.ErrMissing)
	c, e = desk.Moves(h, nil, 1)
	refuse(t, "Moves of no entry", c, e, api.ErrMissing)
	// A dive by a plan without legs moves nothing, and its vessels are used.
	log = more(log, "bob plan none 1000 2 210 0 210 0", "bob fix 5 kit check 1 c1 test pass", "bob kit check 2 c1 test pass", "bob dive d3 none bob 2 0 c1 bank")
	c, e = desk.Moves(h, log, 18)
	expect(t, "Moves of a dive without legs", c, e, api.MixContent{}, api.OK)
	n, e := desk.Breathed(h, log, "d3")
	expect(t, "Breathed without legs", n, e, []int{0, 0}, api.OK)
	s, _, e := desk.StateOf(h, log)
	expect(t, "the last event", s.Events[len(s.Events)-1], e, api.KitEvent{Kind: api.KitUse, Day: 2, Item: "c1"}, api.OK)
}

// P10.3: what is breathed of each gas, by the plan that counts and the breath of the desk.
func TestBreathed(t *testing.T) {
	h := house()
	for dive, want := range map[string][]int{"d1": {100000}, "d2": {689380, 161300}} {
		n, e := desk.Breathed(h, diary(), dive)
		expect(t, "Breathed", n, e, want, api.OK)
	}
	log := more(diary(), "bob fix 4 plan q 1013 2 210 0 500 0 60 1800 1")
	n, e := desk.Breathed(h, log, "d2")
	expect(t, "Breathed", n, e, []int{0, 38260}, api.OK)
	h.Rules.Breath = 10000
	n, e = desk.Breathed(h, log, "d2")
	expect(t, "Breathed", n, e, []int{0, 19130}, api.OK)
	for _, dive := range []string{"", "d3", "D1", "d1 ", "p"} {
		n, e := desk.Breathed(h, log, dive)
		refuse(t, "Breathed", n, e, api.ErrMissing)
	}
}

// P10.3, P10.10: what each fact moves, what is held, and that all gas is somewhere.
func TestGasByModel(t *testing.T) {
	helium := 0
	someLogs(100, func(c chance, m made) {
		h, log := m.h, m.log
		s := m.stateOf()
		var held []api.MixContent
		for _, v := range h.Vessels {
			held = append(held, m.held(s.Fills, v.Name))
		}
		l, e := desk.Contents(h, log)
		expect(t, "Contents", l, e, held, api.OK)
		moves := m.moves()
		for i, x := range log {
			got, e := desk.Moves(h, log, i+1)
			if isFix(x.Text) {
				refuse(t, "Moves", got, e, api.ErrKind)
				continue
			}
			expect(t, "Moves", got, e, moves[0], api.OK)
			moves = moves[1:]
		}
		g, e := desk.Booked(h, log)
		expect(t, "Booked", g, e, m.booked(), api.OK)
		if g.In != added(added(g.Vented, g.Breathed), g.Held) {
			t.Errorf("%+v: what came in is not what was vented, breathed and is held", g)
		}
		helium += g.Breathed.Helium
		for _, d := range s.Dives {
			p, _ := planOf(s, d.Plan)
			want, _ := exposure.Consumed(p, h.Rules.Breath)
			n, e := desk.Breathed(h, log, d.Name)
			expect(t, "Breathed", n, e, want, api.OK)
		}
	})
	if helium == 0 {
		t.Error("no helium is breathed")
	}
}
