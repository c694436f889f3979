package desk_test

import (
	"fmt"
	"testing"

	"shotline/api"
	"shotline/desk"
)

// P10.1: what is wrong with a desk, in the order of the errors.
func TestCheckDesk(t *testing.T) {
	people := func(n int) []api.DeskPerson {
		var l []api.DeskPerson
		for i := range n {
			l = append(l, api.DeskPerson{Name: fmt.Sprint("p", i), Role: 1 + i%3})
		}
		return l
	}
	with := func(spoil func(h *api.DiveDesk)) api.DiveDesk {
		h := house()
		spoil(&h)
		return h
	}
	person := func(name string, role int) api.DiveDesk {
		return with(func(h *api.DiveDesk) {
			h.People = append(h.People, api.DeskPerson{Name: name, Role: role}, api.DeskPerson{})
		})
	}
	alone := func(name string, role int) api.DiveDesk {
		return with(func(h *api.DiveDesk) { h.People = append(h.People, api.DeskPerson{Name: name, Role: role}) })
	}
	for i, x := range []struct {
		h api.DiveDesk
		e api.Errno
	}{
		{house(), api.OK},
		{small(), api.OK},
		{with(func(h *api.DiveDesk) { h.Vessels, h.Kit, h.People = nil, api.KitSetup{}, nil }), api.OK},
		{with(func(h *api.DiveDesk) { h.Vessels = make([]api.MixVessel, 21) }), api.ErrLarge},
		{with(func(h *api.DiveDesk) { h.Vessels[1].Name = "2o" }), api.ErrName},
		{with(func(h *api.DiveDesk) { h.Vessels[2].Name = "c1" }), api.ErrExists},
		{with(func(h *api.DiveDesk) { h.Vessels[0].Volume = 0 }), api.ErrRange},
		{with(func(h *api.DiveDesk) { h.Vessels[0].Most = 400001 }), api.ErrRange},
		{with(func(h *api.DiveDesk) { h.Kit.Items = make([]api.KitItem, 31) }), api.ErrLarge},
		{with(func(h *api.DiveDesk) { h.Kit.Items[1].Name = "" }), api.ErrName},
		{with(func(h *api.DiveDesk) { h.Kit.Items[1].Name = "k" }), api.ErrExists},
		{with(func(h *api.DiveDesk) { h.Kit.Items[1].Kind = 5 }), api.ErrKind},
		{with(func(h *api.DiveDesk) { h.Kit.Rules[0].Days, h.Kit.Rules[0].Uses = 0, 0 }), api.ErrZero},
		{with(func(h *api.DiveDesk) { h.People = people(20) }), api.OK},
		{with(func(h *api.DiveDesk) { h.People = people(21) }), api.ErrLarge},
		{with(func(h *api.DiveDesk) { h.People = make([]api.DeskPerson, 21) }), api.ErrLarge},
		{alone("zed", api.RoleDiver), api.OK},
		{alone("zed", api.RoleMixer), api.OK},
		{alone("abcdefghijkl", api.RoleMaster), api.OK},
		// People may have the names of vessels and of items.
		{alone("c1", api.RoleMaster), api.OK},
		{alone("Ann", api.RoleMaster), api.OK},
		{person("", 0), api.ErrName},
		{person("1", 1), api.ErrName},
		{person("abcdefghijklm", 4), api.ErrName},
		{person("a b", 4), api.ErrName},
		{person("ann", 0), api.ErrExists},
		{person("bob", 3), api.ErrExists},
		{person("zed", 0), api.ErrKind},
		{person("zed", -1), api.ErrKind},
		{person("zed", 4), api.ErrKind},
		{person("zed", 1), api.ErrName},
		{with(func(h *api.DiveDesk) { h.Rules.Table = append(h.Rules.Table, h.Rules.Table...) }), api.ErrOrder},
		{with(func(h *api.DiveDesk) { h.Rules.Table = make([]api.OxygenRow, 21) }), api.ErrLarge},
		{with(func(h *api.DiveDesk) { h.Rules.Oxygen.Least = 1601 }), api.ErrOrder},
		{with(func(h *api.DiveDesk) { h.Rules.Breath = 0 }), api.ErrRange},
		{with(func(h *api.DiveDesk) { h.Rules.Ascent = 0 }), api.ErrRange},
		{with(func(h *api.DiveDesk) { h.Table = nil }), api.ErrShape},
		{with(func(h *api.DiveDesk) { h.Table = make([]api.Compartment, 17) }), api.ErrShape},
		{with(func(h *api.DiveDesk) { h.Table[1].Slope = 999 }), api.ErrRange},
	} {
		if e := desk.CheckDesk(x.h); e != x.e {
			t.Errorf("desk %d: error %d, want %d", i, e, x.e)
		}
		d, e := desk.New(x.h)
		if e != x.e || (d == nil) != (x.e != api.OK) {
			t.Errorf("desk %d: New: %v, error %d, want %d", i, d, e, x.e)
		}
		n, e := desk.SealOf(nil)
		expect(t, "SealOf", n, e, 0, api.OK)
		l, s := desk.Do(x.h, nil, "seal")
		want := "0"
		if x.e != api.OK {
			want = fmt.Sprint("error ", int(x.e))
		}
		expect(t, "Do", s, api.OK, want, api.OK)
		expect(t, "Do", l, api.OK, []api.DeskEntry(nil), api.OK)
	}
}

// P10.9: a desk keeps its entries, and an error changes nothing.
func TestDesk(t *testing.T) {
	d, e := desk.New(house())
	if e != api.OK {
		t.Fatal(e)
	}
	expect(t, "Log", d.Log(), api.OK, []api.DeskEntry(nil), api.OK)
	expect(t, "State", d.State(), api.OK, api.DeskState{}, api.OK)
	for i, x := range diary() {
		n, e := d.Enter(entry("zed sign d1"))
		refuse(t, "Enter", n, e, api.ErrMissing)
		n, e = d.Enter(entry("bob fix 1 plan"))
		refuse(t, "Enter", n, e, api.ErrSyntax)
		n, e = d.Enter(x)
		expect(t, "Enter", n, e, i+1, api.OK)
		s, _, e := desk.StateOf(house(), diary()[:i+1])
		expect(t, "State", d.State(), e, s, api.OK)
		expect(t, "Log", d.Log(), e, diary()[:i+1], api.OK)
	}
	for i, x := range full(50) {
		x.Text = "plan x" + x.Text[5:]
		n, e := d.Enter(x)
		expect(t, "Enter", n, e, 11+i, api.OK)
	}
	for _, text := range []string{"bob plan y 1000 1 210 0", "zed nothing"} {
		n, e := d.Enter(entry(text))
		refuse(t, "Enter", n, e, api.ErrFull)
	}
	expect(t, "entries", len(d.Log()), api.OK, 60, api.OK)
	// Desks know nothing of each other.
	other, _ := desk.New(house())
	n, e := other.Enter(entry("bob plan y 1000 1 210 0"))
	expect(t, "Enter", n, e, 1, api.OK)
	expect(t, "entries", len(d.Log()), api.OK, 60, api.OK)
}

// P10.9, R5: a nil desk.
func TestNilDesk(t *testing.T) {
	var d *desk.Desk
	for _, x := range []api.DeskEntry{{}, entry("bob plan p 1000 1 210 0")} {
		n, e := d.Enter(x)
		refuse(t, "Enter", n, e, api.ErrNil)
	}
	expect(t, "Log", d.Log(), api.OK, []api.DeskEntry(nil), api.OK)
	expect(t, "State", d.State(), api.OK, api.DeskState{}, api.OK)
}
