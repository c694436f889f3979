package kit_test

import (
	"slices"
	"testing"

	"shotline/api"
	"shotline/kit"
)

// holds checks which batches a cylinder has.
func holds(t *testing.T, k api.KitSetup, l []api.KitEvent, item string, want ...api.KitBatch) {
	t.Helper()
	got, e := kit.BatchesIn(k, l, item)
	expect(t, "BatchesIn of "+item, got, e, want, api.OK)
}

// reached checks which cylinders a batch has reached.
func reached(t *testing.T, k api.KitSetup, l []api.KitEvent, b api.KitBatch, want ...string) {
	t.Helper()
	got, e := kit.Reached(k, l, b)
	expect(t, "Reached of "+flat(b), got, e, want, api.OK)
}

// quarantined checks which batches are bad, and which cylinders are in quarantine.
func quarantined(t *testing.T, k api.KitSetup, l []api.KitEvent, bad []api.KitBatch, want ...string) {
	t.Helper()
	got, e := kit.BadBatches(k, l)
	expect(t, "BadBatches", got, e, bad, api.OK)
	names, e := kit.Quarantined(k, l)
	expect(t, "Quarantined", names, e, want, api.OK)
}

// P7.5: the batches of the examples.
func TestBatches(t *testing.T) {
	k, l := shed(), diary()
	bad := []api.KitBatch{batch("c1", 0)}
	holds(t, k, nil, "a")
	holds(t, k, l[:1], "a", batch("c1", 0))
	holds(t, k, l[:1], "b")
	holds(t, k, l, "b", batch("c1", 0))
	quarantined(t, k, nil, nil)
	quarantined(t, k, l[:2], nil)
	quarantined(t, k, l, bad, "a", "b")
	reached(t, k, nil, batch("c1", 0))
	reached(t, k, l[:1], batch("c1", 0), "a")
	l = append(l, empty(8, "b"), air(9, "c1", true), fill(9, "c1", "b"))
	holds(t, k, l[:4], "b")
	holds(t, k, l, "a", batch("c1", 0))
	holds(t, k, l, "b", batch("c1", 1))
	quarantined(t, k, l[:4], bad, "a")
	quarantined(t, k, l, bad, "a")
	reached(t, k, l, batch("c1", 0), "a", "b")
	reached(t, k, l, batch("c1", 1), "b")
	// Another batch may be bad, too; what is emptied twice stays empty.
	l = append(l, air(10, "c1", false), empty(10, "a"), empty(10, "a"))
	quarantined(t, k, l, []api.KitBatch{batch("c1", 0), batch("c1", 1)}, "b")
	holds(t, k, l, "a")
	reached(t, k, l, batch("c1", 0), "a", "b")
}

// P7.5: fills mix batches; who is filled from keeps its own, and gets none.
func TestMixedBatches(t *testing.T) {
	k := api.KitSetup{Items: []api.KitItem{{Name: "y", Kind: api.KitCylinder}, {Name: "q", Kind: api.KitCompressor}, {Name: "x", Kind: api.KitCylinder}, {Name: "p", Kind: api.KitCompressor}, {Name: "w", Kind: api.KitCylinder}}}
	p0, p1, q0 := batch("p", 0), batch("p", 1), batch("q", 0)
	l := []api.KitEvent{fill(1, "p", "x"), air(1, "p", true), fill(1, "q", "y"), fill(1, "x", "y")}
	holds(t, k, l, "x", p0)
	holds(t, k, l, "y", q0, p0)
	holds(t, k, l, "w")
	l = append(l, fill(1, "y", "x"), fill(2, "p", "x"))
	holds(t, k, l, "x", q0, p0, p1)
	holds(t, k, l, "y", q0, p0)
	reached(t, k, l, p0, "y", "x")
	reached(t, k, l, p1, "x")
	// An empty cylinder gives nothing, and takes what comes behind.
	l = append(l, empty(2, "y"), fill(2, "y", "w"), fill(2, "w", "y"))
	holds(t, k, l, "y")
	holds(t, k, l, "w")
	l = append(l, fill(2, "x", "y"), use(2, "x"), use(2, "y"))
	holds(t, k, l, "y", q0, p0, p1)
	holds(t, k, l, "x", q0, p0, p1)
	// An analysis that passes ends the batch of its own compressor alone, and one that fails stops just that.
	l = append(l, air(3, "p", true), air(3, "q", false))
	quarantined(t, k, l, []api.KitBatch{q0}, "y", "x")
	usable(t, k, l, at("p", 3))
	l = append(l, fill(3, "p", "w"))
	holds(t, k, l, "w", batch("p", 2))
	// All items are asked for in their order, not in that of the events.
	l = append(l, air(3, "p", false))
	quarantined(t, k, l, []api.KitBatch{q0, batch("p", 2)}, "y", "x", "w")
}

// P7.5: what is wrong with an item, or a batch.
func TestWrongBatches(t *testing.T) {
	k, l := shed(), append(diary(), air(9, "c1", true))
	for item, wanted := range map[string]api.Errno{"x": api.ErrMissing, "": api.ErrMissing, "test": api.ErrMissing, "c1": api.ErrUnit, "r": api.ErrUnit} {
		got, e := kit.BatchesIn(k, l, item)
		refuse(t, "BatchesIn of "+item, got, e, wanted)
	}
	for _, test := range []struct {
		b api.KitBatch
		e api.Errno
	}{
		{batch("x", -1), api.ErrMissing},
		{batch("", 0), api.ErrMissing},
		{batch("a", -1), api.ErrUnit},
		{batch("r", 0), api.ErrUnit},
		{batch("c1", -1), api.ErrRange},
		{batch("c1", 2), api.ErrRange},
		{batch("c1", 0), api.OK},
		{batch("c1", 1), api.OK},
	} {
		got, e := kit.Reached(k, l, test.b)
		if e != test.e || e != api.OK && got != nil {
			t.Errorf("Reached of %+v: %v, error %d, want %d", test.b, got, e, test.e)
		}
	}
}

// P7.5, P7.6: batches as the definitions tell. A cylinder is in quarantine just if a bad batch has reached it since it was
// emptied; an emptied cylinder has no reason of air.
func TestBatchesByChance(t *testing.T) {
	inQuarantine := 0
	someShops(1000, 40, func(_ chance, m model, _ map[int][]api.KitEvent) {
		quarantined(t, m.k, m.l, m.badBatches(), m.quarantined()...)
		inQuarantine += len(m.quarantined())
		for _, b := range m.batches() {
			_, ever := m.holders(b)
			reached(t, m.k, m.l, b, m.names(func(i api.KitItem) bool { return ever[i.Name] })...)
		}
		for _, i := range m.k.Items {
			if i.Kind == api.KitCompressor {
				got, e := kit.Reached(m.k, m.l, batch(i.Name, m.present(i.Name)+1))
				refuse(t, "Reached", got, e, api.ErrRange)
			}
			if i.Kind != api.KitCylinder {
				continue
			}
			holds(t, m.k, m.l, i.Name, m.batchesIn(i.Name)...)
			day := i.Bought
			if len(m.l) > 0 {
				day = max(day, m.l[len(m.l)-1].Day)
			}
			emptied := append(slices.Clone(m.l), empty(day, i.Name))
			_, reasons, e := kit.Usable(m.k, emptied, at(i.Name, day))
			expect(t, "Usable", nil, e, nil, api.OK)
			if slices.ContainsFunc(reasons, func(r api.KitReason) bool { return r.Kind == api.ReasonAir }) {
				t.Errorf("%s is empty, and has the reasons %v", i.Name, reasons)
			}
			holds(t, m.k, emptied, i.Name)
		}
	})
	if inQuarantine < 100 {
		t.Errorf("there were only %d cylinders in quarantine", inQuarantine)
	}
}
