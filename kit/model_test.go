package kit_test

import (
	"slices"

	"shotline/api"
)

// model is a setup and right events. What it tells it finds anew in all the events, each batch for itself.
type model struct {
	k api.KitSetup
	l []api.KitEvent
}

func (m model) item(name string) (api.KitItem, bool) {
	for _, i := range m.k.Items {
		if i.Name == name {
			return i, true
		}
	}
	return api.KitItem{}, false
}

func (m model) rule(name string) (api.KitRule, bool) {
	for _, r := range m.k.Rules {
		if r.Name == name {
			return r, true
		}
	}
	return api.KitRule{}, false
}

func (m model) kind(name string) int {
	i, _ := m.item(name)
	return i.Kind
}

// before is the beginning of so many events, with is one event more.
func (m model) before(n int) model { return model{m.k, m.l[:n]} }

func (m model) with(x api.KitEvent) model { return model{m.k, append(slices.Clone(m.l), x)} }

// present is the number of the present batch of a compressor: how many analyses passed.
func (m model) present(compressor string) int {
	n := 0
	for _, x := range m.l {
		if x.Kind == api.KitAir && x.Item == compressor && x.Passed {
			n++
		}
	}
	return n
}

// stopped: the last analysis of a compressor did not pass.
func (m model) stopped(compressor string) bool {
	for _, x := range slices.Backward(m.l) {
		if x.Kind == api.KitAir && x.Item == compressor {
			return !x.Passed
		}
	}
	return false
}

func (m model) bad(b api.KitBatch) bool {
	for n, x := range m.l {
		if x.Kind == api.KitAir && x.Item == b.Compressor && !x.Passed && m.before(n).present(b.Compressor) == b.Number {
			return true
		}
	}
	return false
}

// batches are all batches that there have been, in the order of the compressors.
func (m model) batches() []api.KitBatch {
	var l []api.KitBatch
	for _, i := range m.k.Items {
		if i.Kind == api.KitCompressor {
			for n := 0; n <= m.present(i.Name); n++ {
				l = append(l, batch(i.Name, n))
			}
		}
	}
	return l
}

// holders are the cylinders that have a batch, and those that have it, or had it.
func (m model) holders(b api.KitBatch) (now, ever map[string]bool) {
	now, ever = map[string]bool{}, map[string]bool{}
	for n, x := range m.l {
		switch {
		case x.Kind == api.KitEmpty:
			delete(now, x.Item)
		case x.Kind == api.KitFill && (now[x.From] || x.From == b.Compressor && m.before(n).present(b.Compressor) == b.Number):
			now[x.Item], ever[x.Item] = true, true
		}
	}
	return now, ever
}

func (m model) batchesIn(cylinder string) []api.KitBatch {
	var l []api.KitBatch
	for _, b := range m.batches() {
		if now, _ := m.holders(b); now[cylinder] {
			l = append(l, b)
		}
	}
	return l
}

func (m model) badBatches() []api.KitBatch {
	var l []api.KitBatch
	for _, b := range m.batches() {
		if m.bad(b) {
			l = append(l, b)
		}
	}
	return l
}

func (m model) badIn(cylinder string) []api.KitBatch {
	var l []api.KitBatch
	for _, b := range m.batchesIn(cylinder) {
		if m.bad(b) {
			l = append(l, b)
		}
	}
	return l
}

func (m model) quarantined() []string {
	return m.names(func(i api.KitItem) bool { return i.Kind == api.KitCylinder && len(m.badIn(i.Name)) > 0 })
}

func (m model) names(is func(api.KitItem) bool) []string {
	var l []string
	for _, i := range m.k.Items {
		if is(i) {
			l = append(l, i.Name)
		}
	}
	return l
}

// last is the day of the last check of an item by a rule, whether it passed, and the uses behind it.
func (m model) last(item, rule string) (day int, passed bool, uses int) {
	for _, x := range slices.Backward(m.l) {
		if x.Item != item {
			continue
		}
		if x.Kind == api.KitCheck && x.Rule == rule {
			return x.Day, x.Passed, uses
		}
		if x.Kind == api.KitUse {
			uses++
		}
	}
	i, _ := m.item(item)
	return i.Bought, true, uses
}

func (m model) reasons(item string, day int) []api.KitReason {
	var l []api.KitReason
	for _, r := range m.k.Rules {
		if r.Kind != m.kind(item) {
			continue
		}
		on, passed, uses := m.last(item, r.Name)
		if !passed {
			l = append(l, broken(api.ReasonFailed, r.Name))
		} else if r.Days != 0 && day-on > r.Days {
			l = append(l, broken(api.ReasonDays, r.Name))
		} else if r.Uses != 0 && uses >= r.Uses {
			l = append(l, broken(api.ReasonUses, r.Name))
		}
	}
	switch m.kind(item) {
	case api.KitCylinder:
		for _, b := range m.badIn(item) {
			l = append(l, foul(b.Compressor, b.Number))
		}
	case api.KitCompressor:
		if m.stopped(item) {
			l = append(l, foul(item, m.present(item)))
		}
	}
	return l
}

// due lists the last good days of all checks up to a day, first by the day, then by the items, then by the rules.
func (m model) due(until int) []api.KitDue {
	var l []api.KitDue
	for day := 0; day <= until; day++ {
		for _, i := range m.k.Items {
			for _, r := range m.k.Rules {
				on, passed, _ := m.last(i.Name, r.Name)
				if r.Kind == i.Kind && r.Days != 0 && passed && on+r.Days == day {
					l = append(l, due(i.Name, r.Name, day))
				}
			}
		}
	}
	return l
}

// errorOf is the error of one event more: alone, then behind the others.
func (m model) errorOf(x api.KitEvent) api.Errno {
	if e := m.alone(x); e != api.OK {
		return e
	}
	if len(m.l) > 0 && x.Day < m.l[len(m.l)-1].Day {
		return api.ErrOrder
	}
	item, _ := m.item(x.Item)
	from, filled := m.item(x.From)
	if x.Day < item.Bought || filled && x.Day < from.Bought {
		return api.ErrEarly
	}
	if x.Kind == api.KitUse && len(m.reasons(x.Item, x.Day)) > 0 || x.Kind == api.KitFill && len(m.reasons(x.From, x.Day))+len(m.reasons(x.Item, x.Day)) > 0 {
		return api.ErrState
	}
	return api.OK
}

func (m model) alone(x api.KitEvent) api.Errno {
	item, known := m.item(x.Item)
	rule, ruled := m.rule(x.Rule)
	from, filled := m.item(x.From)
	fills := from.Kind == api.KitCylinder || from.Kind == api.KitCompressor
	for _, c := range []struct {
		wrong bool
		e     api.Errno
	}{
		{x.Kind < 0 || x.Kind > 4, api.ErrKind},
		{x.Day < 0 || x.Day > 100000, api.ErrRange},
		{!known, api.ErrMissing},
		{x.Kind != api.KitCheck && x.Rule != "", api.ErrForm},
		{x.Kind != api.KitFill && x.From != "", api.ErrForm},
		{x.Kind != api.KitCheck && x.Kind != api.KitAir && x.Passed, api.ErrForm},
		{x.Kind == api.KitCheck && !ruled, api.ErrMissing},
		{x.Kind == api.KitCheck && rule.Kind != item.Kind, api.ErrUnit},
		{x.Kind == api.KitFill && !filled, api.ErrMissing},
		{x.Kind == api.KitFill && (item.Kind != api.KitCylinder || !fills), api.ErrUnit},
		{x.Kind == api.KitFill && x.From == x.Item, api.ErrClash},
		{x.Kind == api.KitEmpty && item.Kind != api.KitCylinder, api.ErrUnit},
		{x.Kind == api.KitAir && item.Kind != api.KitCompressor, api.ErrUnit},
	} {
		if c.wrong {
			return c.e
		}
	}
	return api.OK
}
