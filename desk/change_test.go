package desk_test

import (
	"slices"
	"testing"

	"shotline/api"
	"shotline/desk"
)

func changed(facts []int, vessels, divers []string) api.DeskChange {
	return api.DeskChange{Facts: facts, Vessels: vessels, Divers: divers}
}

// P10.5: what entries of all kinds change.
func TestChanged(t *testing.T) {
	h := house()
	log := more(diary(), "bob fill in 2 bank 210 0 5000000", "ann plan none 1000 1 210 0")
	for _, x := range []struct {
		entry string
		want  api.DeskChange
	}{
		{"bob fill in 2 bank 210 0 1", changed(nil, []string{"bank"}, nil)},
		{"bob fill vent 2 o2 1", changed(nil, []string{"o2"}, nil)},
		{"bob fill pump 2 bank c1 1", changed(nil, []string{"c1", "bank"}, nil)},
		{"bob kit check 2 c1 test pass", changed(nil, nil, nil)},
		{"ann plan x 1000 1 210 0", changed(nil, nil, nil)},
		{"ann dive d3 p ann 2 0 bank", changed(nil, []string{"bank"}, nil)},
		{"eve dive d3 q eve 3 0 bank o2", changed(nil, []string{"o2", "bank"}, []string{"eve"})},
		{"eve dive d3 none eve 3 0 bank", changed(nil, nil, []string{"eve"})},
		{"bob dive d3 none bob 3 0 bank", changed(nil, nil, []string{"bob"})},
		{"mel record d2 0 0 1 0", changed(nil, nil, nil)},
		{"eve sign d1", changed(nil, nil, nil)},
		// The vents of a fix take more or less out, and what is left, of another mixture.
		{"bob fix 1 fill in 0 c1 210 0 2400001", changed([]int{1}, []string{"c1"}, nil)},
		{"bob fix 1 fill in 0 c1 211 0 2400000", changed([]int{1, 6, 7}, []string{"c1"}, nil)},
		{"bob fix 2 fill in 0 o2 510 0 1000000", changed([]int{2, 7}, []string{"o2"}, nil)},
		{"bob fix 3 plan p 1000 1 210 0 600 0 0", changed([]int{6}, []string{"c1"}, nil)},
		{"bob fix 3 plan p 1000 1 210 0 300 3000 0", changed([]int{6}, []string{"c1"}, []string{"ann"})},
		{"bob fix 3 plan p 1000 1 500 0 300 0 0", changed(nil, nil, []string{"ann"})},
		{"bob fix 3 plan p 1000 1 210 0 150 0 0 150 0 0", changed(nil, nil, nil)},
		{"bob fix 5 kit check 0 c1 test pass", changed(nil, nil, nil)},
		{"bob fix 6 dive d1 p ann 1 3600 o2", changed([]int{6}, []string{"c1", "o2"}, nil)},
		{"bob fix 6 dive d1 p ann 1 3700 c1", changed(nil, nil, nil)},
		// eve has no dive then, and bob has one.
		{"bob fix 7 dive d2 q bob 2 0 c1 o2", changed(nil, nil, []string{"eve", "bob"})},
		{"bob fix 7 dive d2 q ann 2 0 c1 o2", changed(nil, nil, []string{"ann", "eve"})},
		{"bob fix 8 record d1 0 0 1 0", changed(nil, nil, nil)},
		{"bob fix 9 sign d2", changed(nil, nil, nil)},
		{"bob fix 11 fill in 2 bank 210 0 1", changed([]int{11}, []string{"bank"}, nil)},
		{"bob fix 11 fill in 2 c1 210 0 5000", changed([]int{11}, []string{"c1", "bank"}, nil)},
	} {
		c, e := desk.Changed(h, log, entry(x.entry))
		expect(t, "Changed by "+x.entry, c, e, x.want, api.OK)
	}
}

// P10.5: the example, and the errors of an entry.
func TestChangedExample(t *testing.T) {
	fix := entry("bob fix 2 plan p 1000 1 210 0 300 0 0")
	c, e := desk.Changed(small(), example(), fix)
	expect(t, "Changed", c, e, changed([]int{3}, []string{"c1"}, nil), api.OK)
	deep := entry("bob fix 2 plan p 1000 1 210 0 300 300 0")
	c, e = desk.Changed(small(), example(), deep)
	expect(t, "Changed", c, e, changed([]int{3}, []string{"c1"}, []string{"ann"}), api.OK)
	for text, wanted := range map[string]api.Errno{"ann sign d1": api.ErrClash, "zed sign d1": api.ErrMissing, "bob sign": api.ErrSyntax, "ann fix 2 plan p 1000 1 210 0": api.ErrState, "bob fix 1 fill in 0 c1 210 0 5": api.ErrStock} {
		c, e := desk.Changed(small(), example(), entry(text))
		refuse(t, "Changed", c, e, wanted)
	}
	long := append(example(), full(57)...)
	long[3] = entry("bob plan none 1000 1 210 0")
	for i := range long[4:] {
		long[4+i].Text = "plan" + long[4+i].Text[4:6] + "x" + flat(i) + " 1000 1 210 0"
	}
	c, e = desk.Changed(small(), long, fix)
	refuse(t, "Changed of a full log", c, e, api.ErrFull)
	c, e = desk.Changed(small(), long[:59], fix)
	expect(t, "Changed", c, e, changed([]int{3}, []string{"c1"}, nil), api.OK)
}

// P10.5: loads that are others because there are none, or an error, before or behind an entry.
func TestChangedLoads(t *testing.T) {
	h, log := calm()
	log = more(log, "ann dive d1 p ann 1 100 bank", "bob dive d2 p eve 1 100 bank")
	c, e := desk.Changed(h, log, entry("bob dive d3 none bob 1 0 bank"))
	expect(t, "the first dive of bob", c, e, changed(nil, nil, []string{"bob"}), api.OK)
	c, e = desk.Changed(h, log, entry("bob fix 6 dive d2 p mel 1 100 bank"))
	expect(t, "the only dive of eve is one of mel", c, e, changed(nil, nil, []string{"eve", "mel"}), api.OK)
	slow := "bob fix 2 plan p 1000 1 180 450 3600 3000 0 3600 0 0 100001 0 0"
	c, e = desk.Changed(h, log, entry(slow))
	expect(t, "a leg that is too long", c, e, changed([]int{5, 6}, []string{"bank"}, []string{"ann", "eve"}), api.OK)
	log = more(log, slow)
	c, e = desk.Changed(h, log, entry("bob fix 2 plan p 1000 1 180 450 3600 3000 0 3600 0 0"))
	expect(t, "a leg that is right again", c, e, changed([]int{5, 6}, []string{"bank"}, []string{"ann", "eve"}), api.OK)
	// The same error stays the same.
	c, e = desk.Changed(h, log, entry("ann dive d3 q ann 9 0 bank"))
	expect(t, "a dive behind a leg that is too long", c, e, changed(nil, []string{"bank"}, nil), api.OK)
	c, e = desk.Changed(h, log, entry("bob fix 2 plan p 1000 1 180 450 3600 3000 0 3600 0 0 200000 0 0"))
	expect(t, "another leg that is too long", c, e, changed([]int{5, 6}, []string{"bank"}, nil), api.OK)
}

// P10.5, P10.12: what entries by chance change; what is not named moves, holds and loads the same.
func TestChangedByModel(t *testing.T) {
	sizes := map[string]int{}
	someLogs(60, func(c chance, m made) {
		h, log := m.h, m.log
		s := m.stateOf()
		for range 20 {
			x := c.entry(log, s, len(log)/4)
			if len(log) > 0 && c.Intn(2) == 0 {
				x = c.fix(log, s, len(log)/4)
			}
			wanted := m.errorOf(x)
			if len(log) >= api.MaxDeskLog {
				wanted = api.ErrFull
			}
			change, e := desk.Changed(h, log, x)
			if wanted != api.OK {
				refuse(t, "Changed", change, e, wanted)
				continue
			}
			expect(t, "Changed by "+flat(x), change, e, m.changed(x), api.OK)
			if isFix(x.Text) {
				sizes["facts"] += len(change.Facts)
				sizes["vessels"] += len(change.Vessels)
				sizes["divers"] += len(change.Divers)
			}
			unchanged(t, h, log, x, change)
		}
	})
	for name, size := range sizes {
		if size < 8 {
			t.Errorf("%d changed %s only", size, name)
		}
	}
}

func unchanged(t *testing.T, h api.DiveDesk, log []api.DeskEntry, x api.DeskEntry, c api.DeskChange) {
	t.Helper()
	after, _ := desk.Accept(h, log, x)
	for i := range log {
		before, _ := desk.Moves(h, log, i+1)
		behind, _ := desk.Moves(h, after, i+1)
		if same := before == behind; same == slices.Contains(c.Facts, i+1) {
			t.Errorf("%+v: the fact %d moves %v, and then %v", x, i+1, before, behind)
		}
	}
	before, _ := desk.Contents(h, log)
	behind, _ := desk.Contents(h, after)
	for i, v := range h.Vessels {
		if same := before[i] == behind[i]; same == slices.Contains(c.Vessels, v.Name) {
			t.Errorf("%+v: %s holds %v, and then %v", x, v.Name, before[i], behind[i])
		}
	}
	for _, p := range h.People {
		before, e := desk.LoadsOf(h, log, p.Name)
		behind, f := desk.LoadsOf(h, after, p.Name)
		if same := e == f && slices.Equal(before, behind); same == slices.Contains(c.Divers, p.Name) {
			t.Errorf("%+v: %s has %v, and then %v", x, p.Name, before, behind)
		}
	}
}
